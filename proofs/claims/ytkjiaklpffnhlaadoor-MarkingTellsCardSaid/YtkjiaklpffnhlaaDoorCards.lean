/-
  DERIVED. GIVEN WITH THE SEED: THE CARDS: each row of YtkjiaklpffnhlaaDoorRows.lean that lists a variable, with what it lists TIED to the program's text (the seventh form; the later family's looks); each row that meets fmt, with fmt's text TOLD by the authors' own Lean function (tested against real Go, not proved from fmt's source: count such statements apart). THE CARD IS WHAT COUNTS. Prove the row's statement (the work); the ties are given (YtkjiaklpffnhlaaDoorTie.lean); close each card by the builder's one call (the guide's Derived/Test/ToyasCard.lean, 'card_holds'). Laid BY PROGRAM, IN A SANDBOX (cutbox-door.mjs). By AI agents, Wed Nov 11 2026. No macro, syntax, notation, axiom, sorry.
-/
import Derived.Test.YtkjiaklpffnhlaaDoorRows
import GoSem.ClaimSeven
namespace Go.Proofs.YtkjiaklpffnhlaaDoor
namespace Rows

/-- THE TIED CARD OF 'mailguardlaw01.LatticeTells'. -/
def latticeTellsCard : Claim7 := { stood := { row := latticeTellsRow, standIns := [], harness := (true, "44132c9be8c27ab5ccd9e221a1c64076e3ddc1ef46402f9a638eb4346b297a3b"), looks := false }, kinds := [], alts := [], laidByText := true, laidKinds := [.data, .pinned], laidTests := true, laidLooks := .later }
def LatticeTellsCardSaid : Prop := Claim7.holds Tryd.pinned (.plain (OpenSpec.ofChange latticeTellsSpec)) latticeTellsCard

/-- THE TIED CARD OF 'mailguardlaw01.LatticeBack'. -/
def latticeBackCard : Claim7 := { stood := { row := latticeBackRow, standIns := [], harness := (true, "44132c9be8c27ab5ccd9e221a1c64076e3ddc1ef46402f9a638eb4346b297a3b"), looks := false }, kinds := [], alts := [], laidByText := true, laidKinds := [.data, .pinned], laidTests := true, laidLooks := .later }
def LatticeBackCardSaid : Prop := Claim7.holds Tryd.pinned (.plain (OpenSpec.ofChange latticeBackSpec)) latticeBackCard

/-- THE TIED CARD OF 'mailguardlaw02.MarkingTells'. -/
def markingTellsCard : Claim7 := { stood := { row := markingTellsRow, standIns := [], harness := (true, "44132c9be8c27ab5ccd9e221a1c64076e3ddc1ef46402f9a638eb4346b297a3b"), looks := false }, kinds := [], alts := [], laidByText := true, laidKinds := [.data, .pinned], laidTests := true, laidLooks := .later }
def MarkingTellsCardSaid : Prop := Claim7.holds Tryd.pinned (.plain (OpenSpec.ofChange markingTellsSpec)) markingTellsCard

/-- THE TIED CARD OF 'mailguardlaw02.MarkingBack'. -/
def markingBackCard : Claim7 := { stood := { row := markingBackRow, standIns := [], harness := (true, "44132c9be8c27ab5ccd9e221a1c64076e3ddc1ef46402f9a638eb4346b297a3b"), looks := false }, kinds := [], alts := [], laidByText := true, laidKinds := [.data, .pinned], laidTests := true, laidLooks := .later }
def MarkingBackCardSaid : Prop := Claim7.holds Tryd.pinned (.plain (OpenSpec.ofChange markingBackSpec)) markingBackCard

/-- THE TIED CARD OF 'mailguardlaw02.MarkingTwice'. -/
def markingTwiceCard : Claim7 := { stood := { row := markingTwiceRow, standIns := [], harness := (true, "44132c9be8c27ab5ccd9e221a1c64076e3ddc1ef46402f9a638eb4346b297a3b"), looks := false }, kinds := [], alts := [], laidByText := true, laidKinds := [.data, .pinned], laidTests := true, laidLooks := .later }
def MarkingTwiceCardSaid : Prop := Claim7.holds Tryd.pinned (.plain (OpenSpec.ofChange markingTwiceSpec)) markingTwiceCard

/-- THE TIED CARD OF 'mailguardlaw02.MarkingPasses'. -/
def markingPassesCard : Claim7 := { stood := { row := markingPassesRow, standIns := [], harness := (true, "44132c9be8c27ab5ccd9e221a1c64076e3ddc1ef46402f9a638eb4346b297a3b"), looks := false }, kinds := [], alts := [], laidByText := true, laidKinds := [.data, .pinned], laidTests := true, laidLooks := .later }
def MarkingPassesCardSaid : Prop := Claim7.holds Tryd.pinned (.plain (OpenSpec.ofChange markingPassesSpec)) markingPassesCard

/-- THE TIED CARD OF 'mailguardlaw02.MarkingLines'. -/
def markingLinesCard : Claim7 := { stood := { row := markingLinesRow, standIns := [], harness := (true, "44132c9be8c27ab5ccd9e221a1c64076e3ddc1ef46402f9a638eb4346b297a3b"), looks := false }, kinds := [], alts := [], laidByText := true, laidKinds := [.data, .pinned], laidTests := true, laidLooks := .later }
def MarkingLinesCardSaid : Prop := Claim7.holds Tryd.pinned (.plain (OpenSpec.ofChange markingLinesSpec)) markingLinesCard

/-- THE SECOND FORM's CARD OF 'mailguardlaw01.LatticeTells'. -/
def latticeTellsUptoCard : Claim7 := { stood := { row := latticeTellsUptoRow, standIns := [], harness := (true, "44132c9be8c27ab5ccd9e221a1c64076e3ddc1ef46402f9a638eb4346b297a3b"), looks := false }, kinds := [], alts := [], laidByText := true, laidKinds := [.data, .pinned], laidTests := true, laidLooks := .later }
def LatticeTellsUptoCardSaid : Prop := Claim7.holds Tryd.pinned (.plain (OpenSpec.upto latticeTellsSpec)) latticeTellsUptoCard

/-- THE SECOND FORM's CARD OF 'mailguardlaw01.LatticeBack'. -/
def latticeBackUptoCard : Claim7 := { stood := { row := latticeBackUptoRow, standIns := [], harness := (true, "44132c9be8c27ab5ccd9e221a1c64076e3ddc1ef46402f9a638eb4346b297a3b"), looks := false }, kinds := [], alts := [], laidByText := true, laidKinds := [.data, .pinned], laidTests := true, laidLooks := .later }
def LatticeBackUptoCardSaid : Prop := Claim7.holds Tryd.pinned (.plain (OpenSpec.upto latticeBackSpec)) latticeBackUptoCard

/-- THE SECOND FORM's CARD OF 'mailguardlaw02.MarkingTells'. -/
def markingTellsUptoCard : Claim7 := { stood := { row := markingTellsUptoRow, standIns := [], harness := (true, "44132c9be8c27ab5ccd9e221a1c64076e3ddc1ef46402f9a638eb4346b297a3b"), looks := false }, kinds := [], alts := [], laidByText := true, laidKinds := [.data, .pinned], laidTests := true, laidLooks := .later }
def MarkingTellsUptoCardSaid : Prop := Claim7.holds Tryd.pinned (.plain (OpenSpec.upto markingTellsSpec)) markingTellsUptoCard

/-- THE SECOND FORM's CARD OF 'mailguardlaw02.MarkingBack'. -/
def markingBackUptoCard : Claim7 := { stood := { row := markingBackUptoRow, standIns := [], harness := (true, "44132c9be8c27ab5ccd9e221a1c64076e3ddc1ef46402f9a638eb4346b297a3b"), looks := false }, kinds := [], alts := [], laidByText := true, laidKinds := [.data, .pinned], laidTests := true, laidLooks := .later }
def MarkingBackUptoCardSaid : Prop := Claim7.holds Tryd.pinned (.plain (OpenSpec.upto markingBackSpec)) markingBackUptoCard

/-- THE SECOND FORM's CARD OF 'mailguardlaw02.MarkingTwice'. -/
def markingTwiceUptoCard : Claim7 := { stood := { row := markingTwiceUptoRow, standIns := [], harness := (true, "44132c9be8c27ab5ccd9e221a1c64076e3ddc1ef46402f9a638eb4346b297a3b"), looks := false }, kinds := [], alts := [], laidByText := true, laidKinds := [.data, .pinned], laidTests := true, laidLooks := .later }
def MarkingTwiceUptoCardSaid : Prop := Claim7.holds Tryd.pinned (.plain (OpenSpec.upto markingTwiceSpec)) markingTwiceUptoCard

/-- THE SECOND FORM's CARD OF 'mailguardlaw02.MarkingPasses'. -/
def markingPassesUptoCard : Claim7 := { stood := { row := markingPassesUptoRow, standIns := [], harness := (true, "44132c9be8c27ab5ccd9e221a1c64076e3ddc1ef46402f9a638eb4346b297a3b"), looks := false }, kinds := [], alts := [], laidByText := true, laidKinds := [.data, .pinned], laidTests := true, laidLooks := .later }
def MarkingPassesUptoCardSaid : Prop := Claim7.holds Tryd.pinned (.plain (OpenSpec.upto markingPassesSpec)) markingPassesUptoCard

/-- THE SECOND FORM's CARD OF 'mailguardlaw02.MarkingLines'. -/
def markingLinesUptoCard : Claim7 := { stood := { row := markingLinesUptoRow, standIns := [], harness := (true, "44132c9be8c27ab5ccd9e221a1c64076e3ddc1ef46402f9a638eb4346b297a3b"), looks := false }, kinds := [], alts := [], laidByText := true, laidKinds := [.data, .pinned], laidTests := true, laidLooks := .later }
def MarkingLinesUptoCardSaid : Prop := Claim7.holds Tryd.pinned (.plain (OpenSpec.upto markingLinesSpec)) markingLinesUptoCard
end Rows
end Go.Proofs.YtkjiaklpffnhlaaDoor
