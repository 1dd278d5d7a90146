/-
  NARROWER THAN 'FOR EVERY INPUT', by the rows' own cells (each row's printed sentence says how): CtypeTells: laid · CtypeBack: laid · CtypeMore: laid · CtypeLetters: laid · CtypeFind: laid.
  DERIVED. THE GIVEN ROWS OF THIS SEAT. 5 by the template 'for every input the law returns true; each argument reads behind the call as it read before'; 0 by the template 'total and deterministic' (their statements: YtafpifpgfpkckaaDoorTotals.lean).
  GIVEN WITH THE SEED: the statements are not yours to turn. If you find one false, say at which input.
  Laid BY PROGRAM, IN A SANDBOX (cutbox-rows.mjs): the forced cells as the released guide's own fill.sh prints them over the translation f997157dba329b74… (all of the seat's roots in one cut). By AI agents, Wed Nov 11 2026. No macro, syntax, notation, axiom, sorry.
-/
import Derived.Test.YtafpifpgfpkckaaDoorChecked
import GoSem.PinnedTables
import GoSem.Claim
import GoSem.ClaimJoined
import GoSem.ClaimMapViews
import Derived.JoinedTies
import Derived.KernelRfl
namespace Go.Proofs.YtafpifpgfpkckaaDoor
/- THE CELL 'sum', in the pinned program and in every row, IS THE sha256 OF THE DUMP (.gsa) THAT YtafpifpgfpkckaaDoorProg.lean LOADS. Nothing in Lean hashes anything: it is a label: what it is worth is what the hold of that sum in a sandbox is worth. -/
noncomputable def Tryd.pinned : Pinned := { name := "ytafpifpgfpkckaadoor", sum := "f997157dba329b740c6191704fe6f4ca3f8f7fc44b76bc54c507c3f3410a4dac", checked := Tryd.checked }
namespace Rows
def none {H : Type} : Left H := { results := [], args := [] }

/- WHAT THE LISTED PACKAGE-LEVEL VARIABLES READ AS WHEN THE CALL BEGINS. Each datum BY PROGRAM (the guide's laid-datum.mjs) off the statement by which the dump's own 'gosem.cut.vars' lays the variable. In a bare row this is a premise. The card (YtafpifpgfpkckaaDoorCards.lean) ties it to the program's text. -/
def laid_unicode_utf8_acceptRanges {H : Type} : DataW H := .agg [.agg [.lit (.int .u8 128), .lit (.int .u8 191)], .agg [.lit (.int .u8 160), .lit (.int .u8 191)], .agg [.lit (.int .u8 128), .lit (.int .u8 159)], .agg [.lit (.int .u8 144), .lit (.int .u8 191)], .agg [.lit (.int .u8 128), .lit (.int .u8 143)], .agg [.lit (.int .u8 0), .lit (.int .u8 0)], .agg [.lit (.int .u8 0), .lit (.int .u8 0)], .agg [.lit (.int .u8 0), .lit (.int .u8 0)], .agg [.lit (.int .u8 0), .lit (.int .u8 0)], .agg [.lit (.int .u8 0), .lit (.int .u8 0)], .agg [.lit (.int .u8 0), .lit (.int .u8 0)], .agg [.lit (.int .u8 0), .lit (.int .u8 0)], .agg [.lit (.int .u8 0), .lit (.int .u8 0)], .agg [.lit (.int .u8 0), .lit (.int .u8 0)], .agg [.lit (.int .u8 0), .lit (.int .u8 0)], .agg [.lit (.int .u8 0), .lit (.int .u8 0)]]
/-- One of Go's own tables, pinned by name: the form's constant. -/
def laid_unicode_CaseRanges : DataW Unit := Go.Pinned.caseRanges
/-- One of Go's own tables, pinned by name: the form's constant. -/
def laid_unicode_utf8_first : DataW Unit := Go.Pinned.utf8First

/-- 'mailguardlaw12.CtypeTells': WHATEVER THE INPUT: true; the input reads as it did. -/
def ctypeTellsSpec : ChangeSpec := { name := "ctypeTells", fn := fun _ => fun
  | [d1, d2, d3, d4] => { results := [.lit (.bool true)], args := [d1, d2, d3, d4] }
  | _ => none }
def ctypeTellsRow : OpenClaim := { program := "ytafpifpgfpkckaadoor", sum := "f997157dba329b740c6191704fe6f4ca3f8f7fc44b76bc54c507c3f3410a4dac", func := "mailguard/mailguardlaw12.CtypeTells", spec := "ctypeTells", inPlace := ["internal/bytealg.IndexByteString", "internal/abi.NoEscape", "internal/bytealg.MakeNoZero"], unfollowed := true, recurses := true, named := ["unicode/utf8.first", "unicode/utf8.acceptRanges", "unicode.CaseRanges"], apart := false, laid := [("unicode/utf8.acceptRanges", laid_unicode_utf8_acceptRanges), ("unicode.CaseRanges", laid_unicode_CaseRanges), ("unicode/utf8.first", laid_unicode_utf8_first)] }
def CtypeTellsSaid : Prop := ctypeTellsRow.holds Tryd.pinned (OpenSpec.ofChange ctypeTellsSpec)

/-- ITS FALSE NEIGHBOUR: 'it returns false'. Refute it at one input. -/
def ctypeTellsWrong : ChangeSpec := { name := "ctypeTells", fn := fun _ => fun
  | [d1, d2, d3, d4] => { results := [.lit (.bool false)], args := [d1, d2, d3, d4] }
  | _ => none }
def CtypeTellsWrongFalsely : Prop := ctypeTellsRow.holds Tryd.pinned (OpenSpec.ofChange ctypeTellsWrong)

/-- 'mailguardlaw12.CtypeBack': WHATEVER THE INPUT: true; the input reads as it did. -/
def ctypeBackSpec : ChangeSpec := { name := "ctypeBack", fn := fun _ => fun
  | [d1, d2] => { results := [.lit (.bool true)], args := [d1, d2] }
  | _ => none }
def ctypeBackRow : OpenClaim := { program := "ytafpifpgfpkckaadoor", sum := "f997157dba329b740c6191704fe6f4ca3f8f7fc44b76bc54c507c3f3410a4dac", func := "mailguard/mailguardlaw12.CtypeBack", spec := "ctypeBack", inPlace := ["internal/bytealg.IndexByteString", "internal/abi.NoEscape", "internal/bytealg.MakeNoZero"], unfollowed := true, recurses := true, named := ["unicode/utf8.first", "unicode/utf8.acceptRanges", "unicode.CaseRanges"], apart := false, laid := [("unicode/utf8.acceptRanges", laid_unicode_utf8_acceptRanges), ("unicode.CaseRanges", laid_unicode_CaseRanges), ("unicode/utf8.first", laid_unicode_utf8_first)] }
def CtypeBackSaid : Prop := ctypeBackRow.holds Tryd.pinned (OpenSpec.ofChange ctypeBackSpec)

/-- ITS FALSE NEIGHBOUR: 'it returns false'. Refute it at one input. -/
def ctypeBackWrong : ChangeSpec := { name := "ctypeBack", fn := fun _ => fun
  | [d1, d2] => { results := [.lit (.bool false)], args := [d1, d2] }
  | _ => none }
def CtypeBackWrongFalsely : Prop := ctypeBackRow.holds Tryd.pinned (OpenSpec.ofChange ctypeBackWrong)

/-- 'mailguardlaw12.CtypeMore': WHATEVER THE INPUT: true; the input reads as it did. -/
def ctypeMoreSpec : ChangeSpec := { name := "ctypeMore", fn := fun _ => fun
  | [d1, d2] => { results := [.lit (.bool true)], args := [d1, d2] }
  | _ => none }
def ctypeMoreRow : OpenClaim := { program := "ytafpifpgfpkckaadoor", sum := "f997157dba329b740c6191704fe6f4ca3f8f7fc44b76bc54c507c3f3410a4dac", func := "mailguard/mailguardlaw12.CtypeMore", spec := "ctypeMore", inPlace := ["internal/bytealg.IndexByteString", "internal/abi.NoEscape", "internal/bytealg.MakeNoZero"], unfollowed := true, recurses := true, named := ["unicode/utf8.first", "unicode/utf8.acceptRanges", "unicode.CaseRanges"], apart := false, laid := [("unicode/utf8.acceptRanges", laid_unicode_utf8_acceptRanges), ("unicode.CaseRanges", laid_unicode_CaseRanges), ("unicode/utf8.first", laid_unicode_utf8_first)] }
def CtypeMoreSaid : Prop := ctypeMoreRow.holds Tryd.pinned (OpenSpec.ofChange ctypeMoreSpec)

/-- ITS FALSE NEIGHBOUR: 'it returns false'. Refute it at one input. -/
def ctypeMoreWrong : ChangeSpec := { name := "ctypeMore", fn := fun _ => fun
  | [d1, d2] => { results := [.lit (.bool false)], args := [d1, d2] }
  | _ => none }
def CtypeMoreWrongFalsely : Prop := ctypeMoreRow.holds Tryd.pinned (OpenSpec.ofChange ctypeMoreWrong)

/-- 'mailguardlaw12.CtypeLetters': WHATEVER THE INPUT: true; the input reads as it did. -/
def ctypeLettersSpec : ChangeSpec := { name := "ctypeLetters", fn := fun _ => fun
  | [d1, d2] => { results := [.lit (.bool true)], args := [d1, d2] }
  | _ => none }
def ctypeLettersRow : OpenClaim := { program := "ytafpifpgfpkckaadoor", sum := "f997157dba329b740c6191704fe6f4ca3f8f7fc44b76bc54c507c3f3410a4dac", func := "mailguard/mailguardlaw12.CtypeLetters", spec := "ctypeLetters", inPlace := ["internal/bytealg.IndexByteString", "internal/abi.NoEscape", "internal/bytealg.MakeNoZero"], unfollowed := true, recurses := true, named := ["unicode/utf8.first", "unicode/utf8.acceptRanges", "unicode.CaseRanges"], apart := false, laid := [("unicode/utf8.acceptRanges", laid_unicode_utf8_acceptRanges), ("unicode.CaseRanges", laid_unicode_CaseRanges), ("unicode/utf8.first", laid_unicode_utf8_first)] }
def CtypeLettersSaid : Prop := ctypeLettersRow.holds Tryd.pinned (OpenSpec.ofChange ctypeLettersSpec)

/-- ITS FALSE NEIGHBOUR: 'it returns false'. Refute it at one input. -/
def ctypeLettersWrong : ChangeSpec := { name := "ctypeLetters", fn := fun _ => fun
  | [d1, d2] => { results := [.lit (.bool false)], args := [d1, d2] }
  | _ => none }
def CtypeLettersWrongFalsely : Prop := ctypeLettersRow.holds Tryd.pinned (OpenSpec.ofChange ctypeLettersWrong)

/-- 'mailguardlaw12.CtypeFind': WHATEVER THE INPUT: true; the input reads as it did. -/
def ctypeFindSpec : ChangeSpec := { name := "ctypeFind", fn := fun _ => fun
  | [d1, d2] => { results := [.lit (.bool true)], args := [d1, d2] }
  | _ => none }
def ctypeFindRow : OpenClaim := { program := "ytafpifpgfpkckaadoor", sum := "f997157dba329b740c6191704fe6f4ca3f8f7fc44b76bc54c507c3f3410a4dac", func := "mailguard/mailguardlaw12.CtypeFind", spec := "ctypeFind", inPlace := ["internal/bytealg.IndexByteString", "internal/abi.NoEscape", "internal/bytealg.MakeNoZero"], unfollowed := true, recurses := true, named := ["unicode/utf8.first", "unicode/utf8.acceptRanges", "unicode.CaseRanges"], apart := false, laid := [("unicode/utf8.acceptRanges", laid_unicode_utf8_acceptRanges), ("unicode.CaseRanges", laid_unicode_CaseRanges), ("unicode/utf8.first", laid_unicode_utf8_first)] }
def CtypeFindSaid : Prop := ctypeFindRow.holds Tryd.pinned (OpenSpec.ofChange ctypeFindSpec)

/-- ITS FALSE NEIGHBOUR: 'it returns false'. Refute it at one input. -/
def ctypeFindWrong : ChangeSpec := { name := "ctypeFind", fn := fun _ => fun
  | [d1, d2] => { results := [.lit (.bool false)], args := [d1, d2] }
  | _ => none }
def CtypeFindWrongFalsely : Prop := ctypeFindRow.holds Tryd.pinned (OpenSpec.ofChange ctypeFindWrong)

/- THE SECOND FORM. 'bulk': how many values and letters a reading holds, each counted each time it is reached (what is shared counts as often as it is met; a slice's spare places count too). A statement '..UptoSaid' is the law's where the arguments, and the package variables that the reading takes, are together of bulk at most 1048576: NARROWER than '..Said'. Prove '..Said' where nothing that the law and all that it calls make is longer than what came in: it says more and counts as full. Else prove '..UptoSaid'. A law counts once. -/
mutual
def uptoBulk {H : Type} : DataW H → Nat
  | .lit (.string bytes) => bytes.length + 1
  | .lit _ => 1
  | .nil => 1
  | .ptr d => uptoBulk d + 1
  | .slice elems spare => uptoBulkAll elems + uptoBulkAll spare + 1
  | .agg parts => uptoBulkAll parts + 1
  | .iface _ d => uptoBulk d + 1
  | .map entries => uptoBulkEntries entries + 1
  | .held _ => 1
def uptoBulkAll {H : Type} : List (DataW H) → Nat
  | [] => 0
  | d :: r => uptoBulk d + uptoBulkAll r
def uptoBulkEntries {H : Type} : List (Lit × DataW H) → Nat
  | [] => 0
  | x :: r => uptoBulkEntry x + uptoBulkEntries r
def uptoBulkEntry {H : Type} : Lit × DataW H → Nat
  | (.string bytes, d) => bytes.length + uptoBulk d + 1
  | (_, d) => uptoBulk d + 1
 end
def uptoSmall : (H : Type) → List (DataW H) → Bool := fun _ ds => decide (uptoBulkAll ds ≤ 1048576)
def OpenSpec.upto (s : _root_.Go.ChangeSpec) : _root_.Go.OpenSpec := { _root_.Go.OpenSpec.ofChange s with cond := some uptoSmall }

/-- 'mailguardlaw12.CtypeTells', WHERE WHAT IT READS IS OF BULK AT MOST 1048576: true; the input reads as it did. -/
def ctypeTellsUptoRow : OpenClaim := { program := "ytafpifpgfpkckaadoor", sum := "f997157dba329b740c6191704fe6f4ca3f8f7fc44b76bc54c507c3f3410a4dac", func := "mailguard/mailguardlaw12.CtypeTells", spec := "ctypeTells", inPlace := ["internal/bytealg.IndexByteString", "internal/abi.NoEscape", "internal/bytealg.MakeNoZero"], unfollowed := true, recurses := true, named := ["unicode/utf8.first", "unicode/utf8.acceptRanges", "unicode.CaseRanges"], apart := false, laid := [("unicode/utf8.acceptRanges", laid_unicode_utf8_acceptRanges), ("unicode.CaseRanges", laid_unicode_CaseRanges), ("unicode/utf8.first", laid_unicode_utf8_first)], narrowed := true }
def CtypeTellsUptoSaid : Prop := ctypeTellsUptoRow.holds Tryd.pinned (OpenSpec.upto ctypeTellsSpec)

/-- 'mailguardlaw12.CtypeBack', WHERE WHAT IT READS IS OF BULK AT MOST 1048576: true; the input reads as it did. -/
def ctypeBackUptoRow : OpenClaim := { program := "ytafpifpgfpkckaadoor", sum := "f997157dba329b740c6191704fe6f4ca3f8f7fc44b76bc54c507c3f3410a4dac", func := "mailguard/mailguardlaw12.CtypeBack", spec := "ctypeBack", inPlace := ["internal/bytealg.IndexByteString", "internal/abi.NoEscape", "internal/bytealg.MakeNoZero"], unfollowed := true, recurses := true, named := ["unicode/utf8.first", "unicode/utf8.acceptRanges", "unicode.CaseRanges"], apart := false, laid := [("unicode/utf8.acceptRanges", laid_unicode_utf8_acceptRanges), ("unicode.CaseRanges", laid_unicode_CaseRanges), ("unicode/utf8.first", laid_unicode_utf8_first)], narrowed := true }
def CtypeBackUptoSaid : Prop := ctypeBackUptoRow.holds Tryd.pinned (OpenSpec.upto ctypeBackSpec)

/-- 'mailguardlaw12.CtypeMore', WHERE WHAT IT READS IS OF BULK AT MOST 1048576: true; the input reads as it did. -/
def ctypeMoreUptoRow : OpenClaim := { program := "ytafpifpgfpkckaadoor", sum := "f997157dba329b740c6191704fe6f4ca3f8f7fc44b76bc54c507c3f3410a4dac", func := "mailguard/mailguardlaw12.CtypeMore", spec := "ctypeMore", inPlace := ["internal/bytealg.IndexByteString", "internal/abi.NoEscape", "internal/bytealg.MakeNoZero"], unfollowed := true, recurses := true, named := ["unicode/utf8.first", "unicode/utf8.acceptRanges", "unicode.CaseRanges"], apart := false, laid := [("unicode/utf8.acceptRanges", laid_unicode_utf8_acceptRanges), ("unicode.CaseRanges", laid_unicode_CaseRanges), ("unicode/utf8.first", laid_unicode_utf8_first)], narrowed := true }
def CtypeMoreUptoSaid : Prop := ctypeMoreUptoRow.holds Tryd.pinned (OpenSpec.upto ctypeMoreSpec)

/-- 'mailguardlaw12.CtypeLetters', WHERE WHAT IT READS IS OF BULK AT MOST 1048576: true; the input reads as it did. -/
def ctypeLettersUptoRow : OpenClaim := { program := "ytafpifpgfpkckaadoor", sum := "f997157dba329b740c6191704fe6f4ca3f8f7fc44b76bc54c507c3f3410a4dac", func := "mailguard/mailguardlaw12.CtypeLetters", spec := "ctypeLetters", inPlace := ["internal/bytealg.IndexByteString", "internal/abi.NoEscape", "internal/bytealg.MakeNoZero"], unfollowed := true, recurses := true, named := ["unicode/utf8.first", "unicode/utf8.acceptRanges", "unicode.CaseRanges"], apart := false, laid := [("unicode/utf8.acceptRanges", laid_unicode_utf8_acceptRanges), ("unicode.CaseRanges", laid_unicode_CaseRanges), ("unicode/utf8.first", laid_unicode_utf8_first)], narrowed := true }
def CtypeLettersUptoSaid : Prop := ctypeLettersUptoRow.holds Tryd.pinned (OpenSpec.upto ctypeLettersSpec)

/-- 'mailguardlaw12.CtypeFind', WHERE WHAT IT READS IS OF BULK AT MOST 1048576: true; the input reads as it did. -/
def ctypeFindUptoRow : OpenClaim := { program := "ytafpifpgfpkckaadoor", sum := "f997157dba329b740c6191704fe6f4ca3f8f7fc44b76bc54c507c3f3410a4dac", func := "mailguard/mailguardlaw12.CtypeFind", spec := "ctypeFind", inPlace := ["internal/bytealg.IndexByteString", "internal/abi.NoEscape", "internal/bytealg.MakeNoZero"], unfollowed := true, recurses := true, named := ["unicode/utf8.first", "unicode/utf8.acceptRanges", "unicode.CaseRanges"], apart := false, laid := [("unicode/utf8.acceptRanges", laid_unicode_utf8_acceptRanges), ("unicode.CaseRanges", laid_unicode_CaseRanges), ("unicode/utf8.first", laid_unicode_utf8_first)], narrowed := true }
def CtypeFindUptoSaid : Prop := ctypeFindUptoRow.holds Tryd.pinned (OpenSpec.upto ctypeFindSpec)

end Rows
end Go.Proofs.YtafpifpgfpkckaaDoor
