/-
  Texts of this proof, put together: R12A, R12B.
-/
import Derived.Test.YtidlpdiephlkhaaGreatDoorZ27
import Derived.LoopIn
import Derived.Deep.LoopGhost
namespace Go.Proofs.YtidlpdiephlkhaaGreatDoor
open Go.RowKit

end Go.Proofs.YtidlpdiephlkhaaGreatDoor
namespace Go.Proofs.YtidlpdiephlkhaaGreatDoor
open Go.RowKit

end Go.Proofs.YtidlpdiephlkhaaGreatDoor
