/-
  Texts of this proof, put together: R4E.
-/
import Derived.Test.YtidlpdiephlkhaaGreatDoorZ02
import Derived.Test.YtidlpdiephlkhaaGreatDoorZ03
import Derived.Test.YtidlpdiephlkhaaGreatDoorZ01
import Derived.Lib.AppendStr
import Derived.Lib.UnsafeStr
import Derived.Deep.RegionHeld3
namespace Go.Proofs.YtidlpdiephlkhaaGreatDoor
open Go.RowKit

end Go.Proofs.YtidlpdiephlkhaaGreatDoor
