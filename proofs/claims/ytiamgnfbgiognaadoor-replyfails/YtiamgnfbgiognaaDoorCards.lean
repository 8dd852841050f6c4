/-
  DERIVED. GIVEN WITH THE SEED: THE CARDS: each row of YtiamgnfbgiognaaDoorRows.lean that lists a variable, with what it lists TIED to the program's text (the seventh form; the later family's looks); each row that meets fmt, with fmt's text TOLD by the authors' own Lean function (tested against real Go, not proved from fmt's source: count such statements apart). THE CARD IS WHAT COUNTS. Prove the row's statement (the work); the ties are given (YtiamgnfbgiognaaDoorTie.lean); close each card by the builder's one call (the guide's Derived/Test/ToyasCard.lean, 'card_holds'). Laid BY PROGRAM, IN A SANDBOX (cutbox-door.mjs). By AI agents, Wed Nov 11 2026. No macro, syntax, notation, axiom, sorry.
-/
import Derived.Test.YtiamgnfbgiognaaDoorRows
import GoSem.ClaimSeven
namespace Go.Proofs.YtiamgnfbgiognaaDoor
namespace Rows

/-- THE TIED CARD OF 'tallboylaw17.ReplyFails'. -/
def replyFailsCard : Claim7 := { stood := { row := replyFailsRow, standIns := [], harness := (true, "f0ef73fc58afa1b769bd1a227dfe631fd425a5be7565f2318d32db8b60ff4b7c"), looks := true }, kinds := [], alts := [], laidByText := true, laidKinds := [.handle], laidTests := true, laidLooks := .later }
def ReplyFailsCardSaid : Prop := Claim7.holds Tryd.pinned (.plain (OpenSpec.ofChange replyFailsSpec)) replyFailsCard

/-- THE SECOND FORM's CARD OF 'tallboylaw17.ReplyFails'. -/
def replyFailsUptoCard : Claim7 := { stood := { row := replyFailsUptoRow, standIns := [], harness := (true, "f0ef73fc58afa1b769bd1a227dfe631fd425a5be7565f2318d32db8b60ff4b7c"), looks := true }, kinds := [], alts := [], laidByText := true, laidKinds := [.handle], laidTests := true, laidLooks := .later }
def ReplyFailsUptoCardSaid : Prop := Claim7.holds Tryd.pinned (.plain (OpenSpec.upto replyFailsSpec)) replyFailsUptoCard
end Rows
end Go.Proofs.YtiamgnfbgiognaaDoor
