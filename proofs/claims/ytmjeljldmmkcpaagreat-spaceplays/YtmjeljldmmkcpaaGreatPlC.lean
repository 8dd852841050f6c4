/-
 The facts of SpacePlays' row that a computation shows.
-/
import Derived.Test.YtmjeljldmmkcpaaGreatK39
namespace Go.Proofs.YtmjeljldmmkcpaaGreat

theorem plays_closed : joinedFacts Tryz.pinned.checked.prog 4 Tryz.f4 Rows.spacePlaysSpec Rows.spacePlaysRow = true := by kernel_rfl
end Go.Proofs.YtmjeljldmmkcpaaGreat
