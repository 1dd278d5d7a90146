/-
  Texts of this proof, put together: W5F.
-/
import Derived.Test.YtidlpdiephlkhaaGreatDoorT05
import Derived.Lib.IndexMore
import Derived.Lib.Strings
namespace Go.Proofs.YtidlpdiephlkhaaGreatDoor

/-! ## A text in pieces -/

/-- A text in pieces, cut at each byte c. -/
def splitB (c : UInt8) : List UInt8 → List (List UInt8)
  | [] => [[]]
  | b :: r => if b = c then [] :: splitB c r else ((b :: (splitB c r).headD []) :: (splitB c r).tail)
/-! ## Reading -/

/-! ## The document's reading -/

end Go.Proofs.YtidlpdiephlkhaaGreatDoor
