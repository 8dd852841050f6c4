/-
  The document's own Cursor, Parse and Add; Add and Negate; the laws' helpers.
-/
import Derived.Test.YtlapiaoopmhogaaDoorWrite
namespace Go.Proofs.YtlapiaoopmhogaaDoor
open Go.RowKit Go.PlainAid

end Go.Proofs.YtlapiaoopmhogaaDoor
