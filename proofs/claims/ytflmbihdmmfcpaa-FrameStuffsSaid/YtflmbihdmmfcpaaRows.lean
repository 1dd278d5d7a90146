/-
  No cell of these rows narrows 'for every input' (looked for: loops, veiled, ifaces, maps, wideKeys, modest, calm, conditions, laid).
  DERIVED. THE GIVEN ROWS OF THIS SEAT. 6 by the template 'for every input the law returns true; each argument reads behind the call as it read before'; 0 by the template 'total and deterministic' (their statements: YtflmbihdmmfcpaaTotals.lean).
  GIVEN WITH THE SEED: the statements are not yours to turn. If you find one false, say at which input.
  Laid BY PROGRAM, IN A SANDBOX (cutbox-rows.mjs): the forced cells as the released guide's own fill.sh prints them over the translation e60bddbfffa8f955… (all of the seat's roots in one cut). By AI agents, Wed Nov 11 2026. No macro, syntax, notation, axiom, sorry.
-/
import Derived.Test.YtflmbihdmmfcpaaChecked
import GoSem.Claim
import GoSem.ClaimJoined
import GoSem.ClaimMapViews
import Derived.JoinedTies
import Derived.KernelRfl
namespace Go.Proofs.Ytflmbihdmmfcpaa
/- THE CELL 'sum', in the pinned program and in every row, IS THE sha256 OF THE DUMP (.gsa) THAT YtflmbihdmmfcpaaProg.lean LOADS. Nothing in Lean hashes anything: it is a label: what it is worth is what the hold of that sum in a sandbox is worth. -/
noncomputable def Try.pinned : Pinned := { name := "ytflmbihdmmfcpaa", sum := "e60bddbfffa8f95586c019a26c916e7031b554fc81bfc215ae3d1c5b6c10a991", checked := Try.checked }
namespace Rows
def none {H : Type} : Left H := { results := [], args := [] }

/-- 'mailguardlaw06.FrameFeeds': WHATEVER THE INPUT: true; the input reads as it did. -/
def frameFeedsSpec : ChangeSpec := { name := "frameFeeds", fn := fun _ => fun
  | [d1, d2] => { results := [.lit (.bool true)], args := [d1, d2] }
  | _ => none }
def frameFeedsRow : OpenClaim := { program := "ytflmbihdmmfcpaa", sum := "e60bddbfffa8f95586c019a26c916e7031b554fc81bfc215ae3d1c5b6c10a991", func := "mailguard/mailguardlaw06.FrameFeeds", spec := "frameFeeds", inPlace := ["sync/atomic.AddInt64", "internal/bytealg.IndexByteString", "internal/bytealg.IndexString", "internal/abi.NoEscape", "sync/atomic.LoadInt64"], named := ["internal/bytealg.MaxLen"], apart := false }
def FrameFeedsSaid : Prop := frameFeedsRow.holds Try.pinned (OpenSpec.ofChange frameFeedsSpec)

/-- ITS FALSE NEIGHBOUR: 'it returns false'. Refute it at one input. -/
def frameFeedsWrong : ChangeSpec := { name := "frameFeeds", fn := fun _ => fun
  | [d1, d2] => { results := [.lit (.bool false)], args := [d1, d2] }
  | _ => none }
def FrameFeedsWrongFalsely : Prop := frameFeedsRow.holds Try.pinned (OpenSpec.ofChange frameFeedsWrong)

/-- 'mailguardlaw06.FramePieces': WHATEVER THE INPUT: true; the input reads as it did. -/
def framePiecesSpec : ChangeSpec := { name := "framePieces", fn := fun _ => fun
  | [d] => { results := [.lit (.bool true)], args := [d] }
  | _ => none }
def framePiecesRow : OpenClaim := { program := "ytflmbihdmmfcpaa", sum := "e60bddbfffa8f95586c019a26c916e7031b554fc81bfc215ae3d1c5b6c10a991", func := "mailguard/mailguardlaw06.FramePieces", spec := "framePieces", inPlace := ["sync/atomic.AddInt64", "internal/bytealg.IndexByteString", "internal/bytealg.IndexString", "internal/abi.NoEscape", "sync/atomic.LoadInt64"], named := ["internal/bytealg.MaxLen"], apart := false }
def FramePiecesSaid : Prop := framePiecesRow.holds Try.pinned (OpenSpec.ofChange framePiecesSpec)

/-- ITS FALSE NEIGHBOUR: 'it returns false'. Refute it at one input. -/
def framePiecesWrong : ChangeSpec := { name := "framePieces", fn := fun _ => fun
  | [d] => { results := [.lit (.bool false)], args := [d] }
  | _ => none }
def FramePiecesWrongFalsely : Prop := framePiecesRow.holds Try.pinned (OpenSpec.ofChange framePiecesWrong)

/-- 'mailguardlaw06.FrameStuffs': WHATEVER THE INPUT: true; the input reads as it did. -/
def frameStuffsSpec : ChangeSpec := { name := "frameStuffs", fn := fun _ => fun
  | [d1, d2] => { results := [.lit (.bool true)], args := [d1, d2] }
  | _ => none }
def frameStuffsRow : OpenClaim := { program := "ytflmbihdmmfcpaa", sum := "e60bddbfffa8f95586c019a26c916e7031b554fc81bfc215ae3d1c5b6c10a991", func := "mailguard/mailguardlaw06.FrameStuffs", spec := "frameStuffs", inPlace := ["sync/atomic.AddInt64", "internal/bytealg.IndexByteString", "internal/bytealg.IndexString", "internal/abi.NoEscape", "sync/atomic.LoadInt64"], named := ["internal/bytealg.MaxLen"], apart := false }
def FrameStuffsSaid : Prop := frameStuffsRow.holds Try.pinned (OpenSpec.ofChange frameStuffsSpec)

/-- ITS FALSE NEIGHBOUR: 'it returns false'. Refute it at one input. -/
def frameStuffsWrong : ChangeSpec := { name := "frameStuffs", fn := fun _ => fun
  | [d1, d2] => { results := [.lit (.bool false)], args := [d1, d2] }
  | _ => none }
def FrameStuffsWrongFalsely : Prop := frameStuffsRow.holds Try.pinned (OpenSpec.ofChange frameStuffsWrong)

/-- 'mailguardlaw06.FrameBack': WHATEVER THE INPUT: true; the input reads as it did. -/
def frameBackSpec : ChangeSpec := { name := "frameBack", fn := fun _ => fun
  | [d1, d2] => { results := [.lit (.bool true)], args := [d1, d2] }
  | _ => none }
def frameBackRow : OpenClaim := { program := "ytflmbihdmmfcpaa", sum := "e60bddbfffa8f95586c019a26c916e7031b554fc81bfc215ae3d1c5b6c10a991", func := "mailguard/mailguardlaw06.FrameBack", spec := "frameBack", inPlace := ["sync/atomic.AddInt64", "internal/bytealg.IndexByteString", "internal/bytealg.IndexString", "internal/abi.NoEscape", "sync/atomic.LoadInt64"], named := ["internal/bytealg.MaxLen"], apart := false }
def FrameBackSaid : Prop := frameBackRow.holds Try.pinned (OpenSpec.ofChange frameBackSpec)

/-- ITS FALSE NEIGHBOUR: 'it returns false'. Refute it at one input. -/
def frameBackWrong : ChangeSpec := { name := "frameBack", fn := fun _ => fun
  | [d1, d2] => { results := [.lit (.bool false)], args := [d1, d2] }
  | _ => none }
def FrameBackWrongFalsely : Prop := frameBackRow.holds Try.pinned (OpenSpec.ofChange frameBackWrong)

/-- 'mailguardlaw06.FrameReset': WHATEVER THE INPUT: true; the input reads as it did. -/
def frameResetSpec : ChangeSpec := { name := "frameReset", fn := fun _ => fun
  | [d1, d2] => { results := [.lit (.bool true)], args := [d1, d2] }
  | _ => none }
def frameResetRow : OpenClaim := { program := "ytflmbihdmmfcpaa", sum := "e60bddbfffa8f95586c019a26c916e7031b554fc81bfc215ae3d1c5b6c10a991", func := "mailguard/mailguardlaw06.FrameReset", spec := "frameReset", inPlace := ["sync/atomic.AddInt64", "internal/bytealg.IndexByteString", "internal/bytealg.IndexString", "internal/abi.NoEscape", "sync/atomic.LoadInt64"], named := ["internal/bytealg.MaxLen"], apart := false }
def FrameResetSaid : Prop := frameResetRow.holds Try.pinned (OpenSpec.ofChange frameResetSpec)

/-- ITS FALSE NEIGHBOUR: 'it returns false'. Refute it at one input. -/
def frameResetWrong : ChangeSpec := { name := "frameReset", fn := fun _ => fun
  | [d1, d2] => { results := [.lit (.bool false)], args := [d1, d2] }
  | _ => none }
def FrameResetWrongFalsely : Prop := frameResetRow.holds Try.pinned (OpenSpec.ofChange frameResetWrong)

/-- 'mailguardlaw06.FrameLong': WHATEVER THE INPUT: true; the input reads as it did. -/
def frameLongSpec : ChangeSpec := { name := "frameLong", fn := fun _ => fun
  | [d1, d2, d3] => { results := [.lit (.bool true)], args := [d1, d2, d3] }
  | _ => none }
def frameLongRow : OpenClaim := { program := "ytflmbihdmmfcpaa", sum := "e60bddbfffa8f95586c019a26c916e7031b554fc81bfc215ae3d1c5b6c10a991", func := "mailguard/mailguardlaw06.FrameLong", spec := "frameLong", inPlace := ["sync/atomic.AddInt64", "internal/bytealg.IndexByteString", "internal/bytealg.IndexString", "internal/abi.NoEscape", "sync/atomic.LoadInt64"], named := ["internal/bytealg.MaxLen"], apart := false }
def FrameLongSaid : Prop := frameLongRow.holds Try.pinned (OpenSpec.ofChange frameLongSpec)

/-- ITS FALSE NEIGHBOUR: 'it returns false'. Refute it at one input. -/
def frameLongWrong : ChangeSpec := { name := "frameLong", fn := fun _ => fun
  | [d1, d2, d3] => { results := [.lit (.bool false)], args := [d1, d2, d3] }
  | _ => none }
def FrameLongWrongFalsely : Prop := frameLongRow.holds Try.pinned (OpenSpec.ofChange frameLongWrong)

/- THE SECOND FORM. 'bulk': how many values and letters a reading holds, each counted each time it is reached (what is shared counts as often as it is met; a slice's spare places count too). A statement '..UptoSaid' is the law's where the arguments, and the package variables that the reading takes, are together of bulk at most 1048576: NARROWER than '..Said'. Prove '..Said' where nothing that the law and all that it calls make is longer than what came in: it says more and counts as full. Else prove '..UptoSaid'. A law counts once. -/
mutual
def uptoBulk {H : Type} : DataW H → Nat
  | .lit (.string bytes) => bytes.length + 1
  | .lit _ => 1
  | .nil => 1
  | .ptr d => uptoBulk d + 1
  | .slice elems spare => uptoBulkAll elems + uptoBulkAll spare + 1
  | .agg parts => uptoBulkAll parts + 1
  | .iface _ d => uptoBulk d + 1
  | .map entries => uptoBulkEntries entries + 1
  | .held _ => 1
def uptoBulkAll {H : Type} : List (DataW H) → Nat
  | [] => 0
  | d :: r => uptoBulk d + uptoBulkAll r
def uptoBulkEntries {H : Type} : List (Lit × DataW H) → Nat
  | [] => 0
  | x :: r => uptoBulkEntry x + uptoBulkEntries r
def uptoBulkEntry {H : Type} : Lit × DataW H → Nat
  | (.string bytes, d) => bytes.length + uptoBulk d + 1
  | (_, d) => uptoBulk d + 1
 end
def uptoSmall : (H : Type) → List (DataW H) → Bool := fun _ ds => decide (uptoBulkAll ds ≤ 1048576)
def OpenSpec.upto (s : _root_.Go.ChangeSpec) : _root_.Go.OpenSpec := { _root_.Go.OpenSpec.ofChange s with cond := some uptoSmall }

/-- 'mailguardlaw06.FrameFeeds', WHERE WHAT IT READS IS OF BULK AT MOST 1048576: true; the input reads as it did. -/
def frameFeedsUptoRow : OpenClaim := { program := "ytflmbihdmmfcpaa", sum := "e60bddbfffa8f95586c019a26c916e7031b554fc81bfc215ae3d1c5b6c10a991", func := "mailguard/mailguardlaw06.FrameFeeds", spec := "frameFeeds", inPlace := ["sync/atomic.AddInt64", "internal/bytealg.IndexByteString", "internal/bytealg.IndexString", "internal/abi.NoEscape", "sync/atomic.LoadInt64"], named := ["internal/bytealg.MaxLen"], apart := false, narrowed := true }
def FrameFeedsUptoSaid : Prop := frameFeedsUptoRow.holds Try.pinned (OpenSpec.upto frameFeedsSpec)

/-- 'mailguardlaw06.FramePieces', WHERE WHAT IT READS IS OF BULK AT MOST 1048576: true; the input reads as it did. -/
def framePiecesUptoRow : OpenClaim := { program := "ytflmbihdmmfcpaa", sum := "e60bddbfffa8f95586c019a26c916e7031b554fc81bfc215ae3d1c5b6c10a991", func := "mailguard/mailguardlaw06.FramePieces", spec := "framePieces", inPlace := ["sync/atomic.AddInt64", "internal/bytealg.IndexByteString", "internal/bytealg.IndexString", "internal/abi.NoEscape", "sync/atomic.LoadInt64"], named := ["internal/bytealg.MaxLen"], apart := false, narrowed := true }
def FramePiecesUptoSaid : Prop := framePiecesUptoRow.holds Try.pinned (OpenSpec.upto framePiecesSpec)

/-- 'mailguardlaw06.FrameStuffs', WHERE WHAT IT READS IS OF BULK AT MOST 1048576: true; the input reads as it did. -/
def frameStuffsUptoRow : OpenClaim := { program := "ytflmbihdmmfcpaa", sum := "e60bddbfffa8f95586c019a26c916e7031b554fc81bfc215ae3d1c5b6c10a991", func := "mailguard/mailguardlaw06.FrameStuffs", spec := "frameStuffs", inPlace := ["sync/atomic.AddInt64", "internal/bytealg.IndexByteString", "internal/bytealg.IndexString", "internal/abi.NoEscape", "sync/atomic.LoadInt64"], named := ["internal/bytealg.MaxLen"], apart := false, narrowed := true }
def FrameStuffsUptoSaid : Prop := frameStuffsUptoRow.holds Try.pinned (OpenSpec.upto frameStuffsSpec)

/-- 'mailguardlaw06.FrameBack', WHERE WHAT IT READS IS OF BULK AT MOST 1048576: true; the input reads as it did. -/
def frameBackUptoRow : OpenClaim := { program := "ytflmbihdmmfcpaa", sum := "e60bddbfffa8f95586c019a26c916e7031b554fc81bfc215ae3d1c5b6c10a991", func := "mailguard/mailguardlaw06.FrameBack", spec := "frameBack", inPlace := ["sync/atomic.AddInt64", "internal/bytealg.IndexByteString", "internal/bytealg.IndexString", "internal/abi.NoEscape", "sync/atomic.LoadInt64"], named := ["internal/bytealg.MaxLen"], apart := false, narrowed := true }
def FrameBackUptoSaid : Prop := frameBackUptoRow.holds Try.pinned (OpenSpec.upto frameBackSpec)

/-- 'mailguardlaw06.FrameReset', WHERE WHAT IT READS IS OF BULK AT MOST 1048576: true; the input reads as it did. -/
def frameResetUptoRow : OpenClaim := { program := "ytflmbihdmmfcpaa", sum := "e60bddbfffa8f95586c019a26c916e7031b554fc81bfc215ae3d1c5b6c10a991", func := "mailguard/mailguardlaw06.FrameReset", spec := "frameReset", inPlace := ["sync/atomic.AddInt64", "internal/bytealg.IndexByteString", "internal/bytealg.IndexString", "internal/abi.NoEscape", "sync/atomic.LoadInt64"], named := ["internal/bytealg.MaxLen"], apart := false, narrowed := true }
def FrameResetUptoSaid : Prop := frameResetUptoRow.holds Try.pinned (OpenSpec.upto frameResetSpec)

/-- 'mailguardlaw06.FrameLong', WHERE WHAT IT READS IS OF BULK AT MOST 1048576: true; the input reads as it did. -/
def frameLongUptoRow : OpenClaim := { program := "ytflmbihdmmfcpaa", sum := "e60bddbfffa8f95586c019a26c916e7031b554fc81bfc215ae3d1c5b6c10a991", func := "mailguard/mailguardlaw06.FrameLong", spec := "frameLong", inPlace := ["sync/atomic.AddInt64", "internal/bytealg.IndexByteString", "internal/bytealg.IndexString", "internal/abi.NoEscape", "sync/atomic.LoadInt64"], named := ["internal/bytealg.MaxLen"], apart := false, narrowed := true }
def FrameLongUptoSaid : Prop := frameLongUptoRow.holds Try.pinned (OpenSpec.upto frameLongSpec)

end Rows
end Go.Proofs.Ytflmbihdmmfcpaa
