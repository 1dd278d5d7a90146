/-
  DERIVED. GIVEN WITH THE SEED: THE CARDS: each row of YtidlpdiephlkhaaGreatDoorRows.lean that lists a variable, with what it lists TIED to the program's text (the seventh form; the later family's looks); each row that meets fmt, with fmt's text TOLD by the authors' own Lean function (tested against real Go, not proved from fmt's source: count such statements apart). THE CARD IS WHAT COUNTS. Prove the row's statement (the work); the ties are given (YtidlpdiephlkhaaGreatDoorTie.lean); close each card by the builder's one call (the guide's Derived/Test/ToyasCard.lean, 'card_holds'). Laid BY PROGRAM, IN A SANDBOX (cutbox-door.mjs). By AI agents, Wed Nov 11 2026. No macro, syntax, notation, axiom, sorry.
-/
import Derived.Test.YtidlpdiephlkhaaGreatDoorRows
import GoSem.ClaimSeven
namespace Go.Proofs.YtidlpdiephlkhaaGreatDoor
namespace Rows

/-- THE TIED CARD OF 'mailguardlaw13.MimeTells'. -/
def mimeTellsCard : Claim7 := { stood := { row := mimeTellsRow, standIns := [], harness := (true, "b7bbb2fb33ece7406864c24d61a90d3fc130ff0bd83770a8cf34182efe56f31f"), looks := false }, kinds := [], alts := [], laidByText := true, laidKinds := [.data, .pinned, .pinned], laidTests := true, laidLooks := .later }
def MimeTellsCardSaid : Prop := Claim7.holds Tryz.pinned (.plain (OpenSpec.ofChange mimeTellsSpec)) mimeTellsCard

/-- THE TIED CARD OF 'mailguardlaw13.MimeTrees'. -/
def mimeTreesCard : Claim7 := { stood := { row := mimeTreesRow, standIns := [], harness := (true, "b7bbb2fb33ece7406864c24d61a90d3fc130ff0bd83770a8cf34182efe56f31f"), looks := false }, kinds := [], alts := [], laidByText := true, laidKinds := [.data, .pinned, .pinned], laidTests := true, laidLooks := .later }
def MimeTreesCardSaid : Prop := Claim7.holds Tryz.pinned (.plain (OpenSpec.ofChange mimeTreesSpec)) mimeTreesCard

/-- THE TIED CARD OF 'mailguardlaw13.MimeLeaves'. -/
def mimeLeavesCard : Claim7 := { stood := { row := mimeLeavesRow, standIns := [], harness := (true, "b7bbb2fb33ece7406864c24d61a90d3fc130ff0bd83770a8cf34182efe56f31f"), looks := false }, kinds := [], alts := [], laidByText := true, laidKinds := [.data, .pinned, .pinned], laidTests := true, laidLooks := .later }
def MimeLeavesCardSaid : Prop := Claim7.holds Tryz.pinned (.plain (OpenSpec.ofChange mimeLeavesSpec)) mimeLeavesCard

/-- THE TIED CARD OF 'mailguardlaw13.MimeParts'. -/
def mimePartsCard : Claim7 := { stood := { row := mimePartsRow, standIns := [], harness := (true, "b7bbb2fb33ece7406864c24d61a90d3fc130ff0bd83770a8cf34182efe56f31f"), looks := false }, kinds := [], alts := [], laidByText := true, laidKinds := [.data, .pinned, .pinned], laidTests := true, laidLooks := .later }
def MimePartsCardSaid : Prop := Claim7.holds Tryz.pinned (.plain (OpenSpec.ofChange mimePartsSpec)) mimePartsCard

/-- THE TIED CARD OF 'mailguardlaw13.MimeCodings'. -/
def mimeCodingsCard : Claim7 := { stood := { row := mimeCodingsRow, standIns := [], harness := (true, "b7bbb2fb33ece7406864c24d61a90d3fc130ff0bd83770a8cf34182efe56f31f"), looks := false }, kinds := [], alts := [], laidByText := true, laidKinds := [.data, .pinned, .pinned], laidTests := true, laidLooks := .later }
def MimeCodingsCardSaid : Prop := Claim7.holds Tryz.pinned (.plain (OpenSpec.ofChange mimeCodingsSpec)) mimeCodingsCard

/-- THE TIED CARD OF 'mailguardlaw13.MimeFields'. -/
def mimeFieldsCard : Claim7 := { stood := { row := mimeFieldsRow, standIns := [], harness := (true, "b7bbb2fb33ece7406864c24d61a90d3fc130ff0bd83770a8cf34182efe56f31f"), looks := false }, kinds := [], alts := [], laidByText := true, laidKinds := [.data, .pinned, .pinned], laidTests := true, laidLooks := .later }
def MimeFieldsCardSaid : Prop := Claim7.holds Tryz.pinned (.plain (OpenSpec.ofChange mimeFieldsSpec)) mimeFieldsCard

/-- THE TIED CARD OF 'mailguardlaw14.RegenParsed'. -/
def regenParsedCard : Claim7 := { stood := { row := regenParsedRow, standIns := [], harness := (true, "b7bbb2fb33ece7406864c24d61a90d3fc130ff0bd83770a8cf34182efe56f31f"), looks := false }, kinds := [], alts := [], laidByText := true, laidKinds := [.data, .data, .data, .data, .pinned, .pinned], laidTests := true, laidLooks := .later }
def RegenParsedCardSaid : Prop := Claim7.holds Tryz.pinned (.plain (OpenSpec.ofChange regenParsedSpec)) regenParsedCard

/-- THE SECOND FORM's CARD OF 'mailguardlaw13.MimeTells'. -/
def mimeTellsUptoCard : Claim7 := { stood := { row := mimeTellsUptoRow, standIns := [], harness := (true, "b7bbb2fb33ece7406864c24d61a90d3fc130ff0bd83770a8cf34182efe56f31f"), looks := false }, kinds := [], alts := [], laidByText := true, laidKinds := [.data, .pinned, .pinned], laidTests := true, laidLooks := .later }
def MimeTellsUptoCardSaid : Prop := Claim7.holds Tryz.pinned (.plain (OpenSpec.upto mimeTellsSpec)) mimeTellsUptoCard

/-- THE SECOND FORM's CARD OF 'mailguardlaw13.MimeTrees'. -/
def mimeTreesUptoCard : Claim7 := { stood := { row := mimeTreesUptoRow, standIns := [], harness := (true, "b7bbb2fb33ece7406864c24d61a90d3fc130ff0bd83770a8cf34182efe56f31f"), looks := false }, kinds := [], alts := [], laidByText := true, laidKinds := [.data, .pinned, .pinned], laidTests := true, laidLooks := .later }
def MimeTreesUptoCardSaid : Prop := Claim7.holds Tryz.pinned (.plain (OpenSpec.upto mimeTreesSpec)) mimeTreesUptoCard

/-- THE SECOND FORM's CARD OF 'mailguardlaw13.MimeLeaves'. -/
def mimeLeavesUptoCard : Claim7 := { stood := { row := mimeLeavesUptoRow, standIns := [], harness := (true, "b7bbb2fb33ece7406864c24d61a90d3fc130ff0bd83770a8cf34182efe56f31f"), looks := false }, kinds := [], alts := [], laidByText := true, laidKinds := [.data, .pinned, .pinned], laidTests := true, laidLooks := .later }
def MimeLeavesUptoCardSaid : Prop := Claim7.holds Tryz.pinned (.plain (OpenSpec.upto mimeLeavesSpec)) mimeLeavesUptoCard

/-- THE SECOND FORM's CARD OF 'mailguardlaw13.MimeParts'. -/
def mimePartsUptoCard : Claim7 := { stood := { row := mimePartsUptoRow, standIns := [], harness := (true, "b7bbb2fb33ece7406864c24d61a90d3fc130ff0bd83770a8cf34182efe56f31f"), looks := false }, kinds := [], alts := [], laidByText := true, laidKinds := [.data, .pinned, .pinned], laidTests := true, laidLooks := .later }
def MimePartsUptoCardSaid : Prop := Claim7.holds Tryz.pinned (.plain (OpenSpec.upto mimePartsSpec)) mimePartsUptoCard

/-- THE SECOND FORM's CARD OF 'mailguardlaw13.MimeCodings'. -/
def mimeCodingsUptoCard : Claim7 := { stood := { row := mimeCodingsUptoRow, standIns := [], harness := (true, "b7bbb2fb33ece7406864c24d61a90d3fc130ff0bd83770a8cf34182efe56f31f"), looks := false }, kinds := [], alts := [], laidByText := true, laidKinds := [.data, .pinned, .pinned], laidTests := true, laidLooks := .later }
def MimeCodingsUptoCardSaid : Prop := Claim7.holds Tryz.pinned (.plain (OpenSpec.upto mimeCodingsSpec)) mimeCodingsUptoCard

/-- THE SECOND FORM's CARD OF 'mailguardlaw13.MimeFields'. -/
def mimeFieldsUptoCard : Claim7 := { stood := { row := mimeFieldsUptoRow, standIns := [], harness := (true, "b7bbb2fb33ece7406864c24d61a90d3fc130ff0bd83770a8cf34182efe56f31f"), looks := false }, kinds := [], alts := [], laidByText := true, laidKinds := [.data, .pinned, .pinned], laidTests := true, laidLooks := .later }
def MimeFieldsUptoCardSaid : Prop := Claim7.holds Tryz.pinned (.plain (OpenSpec.upto mimeFieldsSpec)) mimeFieldsUptoCard

/-- THE SECOND FORM's CARD OF 'mailguardlaw14.RegenParsed'. -/
def regenParsedUptoCard : Claim7 := { stood := { row := regenParsedUptoRow, standIns := [], harness := (true, "b7bbb2fb33ece7406864c24d61a90d3fc130ff0bd83770a8cf34182efe56f31f"), looks := false }, kinds := [], alts := [], laidByText := true, laidKinds := [.data, .data, .data, .data, .pinned, .pinned], laidTests := true, laidLooks := .later }
def RegenParsedUptoCardSaid : Prop := Claim7.holds Tryz.pinned (.plain (OpenSpec.upto regenParsedSpec)) regenParsedUptoCard
end Rows
end Go.Proofs.YtidlpdiephlkhaaGreatDoor
