/-
  DERIVED. GIVEN WITH THE SEED: THE CARDS: each row of YtjikghndoklajaaGreatDoorRows.lean that lists a variable, with what it lists TIED to the program's text (the seventh form; the later family's looks); each row that meets fmt, with fmt's text TOLD by the authors' own Lean function (tested against real Go, not proved from fmt's source: count such statements apart). THE CARD IS WHAT COUNTS. Prove the row's statement (the work); the ties are given (YtjikghndoklajaaGreatDoorTie.lean); close each card by the builder's one call (the guide's Derived/Test/ToyasCard.lean, 'card_holds'). Laid BY PROGRAM, IN A SANDBOX (cutbox-door.mjs). By AI agents, Wed Nov 11 2026. No macro, syntax, notation, axiom, sorry.
-/
import Derived.Test.YtjikghndoklajaaGreatDoorRows
import GoSem.ClaimSeven
namespace Go.Proofs.YtjikghndoklajaaGreatDoor
namespace Rows

/-- THE TIED CARD OF 'mailguardlaw14.RegenParsed'. -/
def regenParsedCard : Claim7 := { stood := { row := regenParsedRow, standIns := [], harness := (true, "8f931591d25ceee1a00823d8309343fb3f53565ac49435e45d481df76692dc75"), looks := false }, kinds := [], alts := [], laidByText := true, laidKinds := [.data, .data, .data, .data, .pinned, .pinned], laidTests := true, laidLooks := .later }
def RegenParsedCardSaid : Prop := Claim7.holds Tryz.pinned (.plain (OpenSpec.ofChange regenParsedSpec)) regenParsedCard

/-- THE SECOND FORM's CARD OF 'mailguardlaw14.RegenParsed'. -/
def regenParsedUptoCard : Claim7 := { stood := { row := regenParsedUptoRow, standIns := [], harness := (true, "8f931591d25ceee1a00823d8309343fb3f53565ac49435e45d481df76692dc75"), looks := false }, kinds := [], alts := [], laidByText := true, laidKinds := [.data, .data, .data, .data, .pinned, .pinned], laidTests := true, laidLooks := .later }
def RegenParsedUptoCardSaid : Prop := Claim7.holds Tryz.pinned (.plain (OpenSpec.upto regenParsedSpec)) regenParsedUptoCard
end Rows
end Go.Proofs.YtjikghndoklajaaGreatDoor
