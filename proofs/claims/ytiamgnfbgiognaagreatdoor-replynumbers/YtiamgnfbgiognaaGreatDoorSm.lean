/-
  made.
-/
import Derived.Test.YtiamgnfbgiognaaGreatDoorSl
namespace Go.Proofs.YtiamgnfbgiognaaGreatDoor
open Go.RowKit Go.PlainAid

end Go.Proofs.YtiamgnfbgiognaaGreatDoor
