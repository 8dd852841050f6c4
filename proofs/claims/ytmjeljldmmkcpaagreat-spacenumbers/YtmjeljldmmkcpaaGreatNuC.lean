/-
 The facts of SpaceNumbers' row that a computation shows.
-/
import Derived.Test.YtmjeljldmmkcpaaGreatK42
namespace Go.Proofs.YtmjeljldmmkcpaaGreat

theorem numbers_closed : joinedFacts Tryz.pinned.checked.prog 3 Tryz.f3 Rows.spaceNumbersSpec Rows.spaceNumbersRow = true := by kernel_rfl
end Go.Proofs.YtmjeljldmmkcpaaGreat
