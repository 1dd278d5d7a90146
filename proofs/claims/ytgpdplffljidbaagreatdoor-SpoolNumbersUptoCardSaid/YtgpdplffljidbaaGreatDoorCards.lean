/-
  DERIVED. GIVEN WITH THE SEED: THE CARDS: each row of YtgpdplffljidbaaGreatDoorRows.lean that lists a variable, with what it lists TIED to the program's text (the seventh form; the later family's looks); each row that meets fmt, with fmt's text TOLD by the authors' own Lean function (tested against real Go, not proved from fmt's source: count such statements apart). THE CARD IS WHAT COUNTS. Prove the row's statement (the work); the ties are given (YtgpdplffljidbaaGreatDoorTie.lean); close each card by the builder's one call (the guide's Derived/Test/ToyasCard.lean, 'card_holds'). Laid BY PROGRAM, IN A SANDBOX (cutbox-door.mjs). By AI agents, Wed Nov 11 2026. No macro, syntax, notation, axiom, sorry.
-/
import Derived.Test.YtgpdplffljidbaaGreatDoorRows
import GoSem.ClaimSeven
namespace Go.Proofs.YtgpdplffljidbaaGreatDoor
namespace Rows

/-- THE TIED CARD OF 'mailguardlaw16.SpoolPlays'. -/
def spoolPlaysCard : Claim7 := { stood := { row := spoolPlaysRow, standIns := [], harness := (true, "2142b1910e5798754fe17b5c6acc99d599584f3f7007f6d95c160ab0888dfcd7"), looks := true }, kinds := [], alts := [], laidByText := true, laidKinds := [.data, .data, .data, .sentinel, .sentinel], laidTests := true, laidLooks := .later }
def SpoolPlaysCardSaid : Prop := Claim7.holds Tryz.pinned (.plain (OpenSpec.ofChange spoolPlaysSpec)) spoolPlaysCard

/-- THE TIED CARD OF 'mailguardlaw16.SpoolNumbers'. -/
def spoolNumbersCard : Claim7 := { stood := { row := spoolNumbersRow, standIns := [], harness := (true, "2142b1910e5798754fe17b5c6acc99d599584f3f7007f6d95c160ab0888dfcd7"), looks := true }, kinds := [], alts := [], laidByText := true, laidKinds := [.data, .data, .data, .sentinel, .sentinel], laidTests := true, laidLooks := .later }
def SpoolNumbersCardSaid : Prop := Claim7.holds Tryz.pinned (.plain (OpenSpec.ofChange spoolNumbersSpec)) spoolNumbersCard

/-- THE TIED CARD OF 'mailguardlaw16.SpoolReady'. -/
def spoolReadyCard : Claim7 := { stood := { row := spoolReadyRow, standIns := [], harness := (true, "2142b1910e5798754fe17b5c6acc99d599584f3f7007f6d95c160ab0888dfcd7"), looks := true }, kinds := [], alts := [], laidByText := true, laidKinds := [.data, .data, .data, .sentinel, .sentinel], laidTests := true, laidLooks := .later }
def SpoolReadyCardSaid : Prop := Claim7.holds Tryz.pinned (.plain (OpenSpec.ofChange spoolReadySpec)) spoolReadyCard

/-- THE TIED CARD OF 'mailguardlaw16.SpoolApart'. -/
def spoolApartCard : Claim7 := { stood := { row := spoolApartRow, standIns := [], harness := (true, "2142b1910e5798754fe17b5c6acc99d599584f3f7007f6d95c160ab0888dfcd7"), looks := true }, kinds := [], alts := [], laidByText := true, laidKinds := [.data, .data, .data, .sentinel, .sentinel], laidTests := true, laidLooks := .later }
def SpoolApartCardSaid : Prop := Claim7.holds Tryz.pinned (.plain (OpenSpec.ofChange spoolApartSpec)) spoolApartCard

/-- THE TIED CARD OF 'mailguardlaw16.SpoolExpires'. -/
def spoolExpiresCard : Claim7 := { stood := { row := spoolExpiresRow, standIns := [], harness := (true, "2142b1910e5798754fe17b5c6acc99d599584f3f7007f6d95c160ab0888dfcd7"), looks := true }, kinds := [], alts := [], laidByText := true, laidKinds := [.data, .data, .data, .sentinel, .sentinel], laidTests := true, laidLooks := .later }
def SpoolExpiresCardSaid : Prop := Claim7.holds Tryz.pinned (.plain (OpenSpec.ofChange spoolExpiresSpec)) spoolExpiresCard

/-- THE SECOND FORM's CARD OF 'mailguardlaw16.SpoolPlays'. -/
def spoolPlaysUptoCard : Claim7 := { stood := { row := spoolPlaysUptoRow, standIns := [], harness := (true, "2142b1910e5798754fe17b5c6acc99d599584f3f7007f6d95c160ab0888dfcd7"), looks := true }, kinds := [], alts := [], laidByText := true, laidKinds := [.data, .data, .data, .sentinel, .sentinel], laidTests := true, laidLooks := .later }
def SpoolPlaysUptoCardSaid : Prop := Claim7.holds Tryz.pinned (.plain (OpenSpec.upto spoolPlaysSpec)) spoolPlaysUptoCard

/-- THE SECOND FORM's CARD OF 'mailguardlaw16.SpoolNumbers'. -/
def spoolNumbersUptoCard : Claim7 := { stood := { row := spoolNumbersUptoRow, standIns := [], harness := (true, "2142b1910e5798754fe17b5c6acc99d599584f3f7007f6d95c160ab0888dfcd7"), looks := true }, kinds := [], alts := [], laidByText := true, laidKinds := [.data, .data, .data, .sentinel, .sentinel], laidTests := true, laidLooks := .later }
def SpoolNumbersUptoCardSaid : Prop := Claim7.holds Tryz.pinned (.plain (OpenSpec.upto spoolNumbersSpec)) spoolNumbersUptoCard

/-- THE SECOND FORM's CARD OF 'mailguardlaw16.SpoolReady'. -/
def spoolReadyUptoCard : Claim7 := { stood := { row := spoolReadyUptoRow, standIns := [], harness := (true, "2142b1910e5798754fe17b5c6acc99d599584f3f7007f6d95c160ab0888dfcd7"), looks := true }, kinds := [], alts := [], laidByText := true, laidKinds := [.data, .data, .data, .sentinel, .sentinel], laidTests := true, laidLooks := .later }
def SpoolReadyUptoCardSaid : Prop := Claim7.holds Tryz.pinned (.plain (OpenSpec.upto spoolReadySpec)) spoolReadyUptoCard

/-- THE SECOND FORM's CARD OF 'mailguardlaw16.SpoolApart'. -/
def spoolApartUptoCard : Claim7 := { stood := { row := spoolApartUptoRow, standIns := [], harness := (true, "2142b1910e5798754fe17b5c6acc99d599584f3f7007f6d95c160ab0888dfcd7"), looks := true }, kinds := [], alts := [], laidByText := true, laidKinds := [.data, .data, .data, .sentinel, .sentinel], laidTests := true, laidLooks := .later }
def SpoolApartUptoCardSaid : Prop := Claim7.holds Tryz.pinned (.plain (OpenSpec.upto spoolApartSpec)) spoolApartUptoCard

/-- THE SECOND FORM's CARD OF 'mailguardlaw16.SpoolExpires'. -/
def spoolExpiresUptoCard : Claim7 := { stood := { row := spoolExpiresUptoRow, standIns := [], harness := (true, "2142b1910e5798754fe17b5c6acc99d599584f3f7007f6d95c160ab0888dfcd7"), looks := true }, kinds := [], alts := [], laidByText := true, laidKinds := [.data, .data, .data, .sentinel, .sentinel], laidTests := true, laidLooks := .later }
def SpoolExpiresUptoCardSaid : Prop := Claim7.holds Tryz.pinned (.plain (OpenSpec.upto spoolExpiresSpec)) spoolExpiresUptoCard
end Rows
end Go.Proofs.YtgpdplffljidbaaGreatDoor
