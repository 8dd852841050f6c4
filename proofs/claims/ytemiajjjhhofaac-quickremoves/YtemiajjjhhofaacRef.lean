/-
  The document's own Cursor, Parse and Add; Add and Negate; the laws' helpers.
-/
import Derived.Test.YtemiajjjhhofaacWrite
namespace Go.Proofs.Ytemiajjjhhofaac
open Go.RowKit Go.PlainAid

end Go.Proofs.Ytemiajjjhhofaac
