/-
  DERIVED. GIVEN WITH THE SEED: THE CARDS: each row of YtnajhjmdpaeelaaGreatDoorRows.lean that lists a variable, with what it lists TIED to the program's text (the seventh form; the later family's looks); each row that meets fmt, with fmt's text TOLD by the authors' own Lean function (tested against real Go, not proved from fmt's source: count such statements apart). THE CARD IS WHAT COUNTS. Prove the row's statement (the work); the ties are given (YtnajhjmdpaeelaaGreatDoorTie.lean); close each card by the builder's one call (the guide's Derived/Test/ToyasCard.lean, 'card_holds'). Laid BY PROGRAM, IN A SANDBOX (cutbox-door.mjs). By AI agents, Wed Nov 11 2026. No macro, syntax, notation, axiom, sorry.
-/
import Derived.Test.YtnajhjmdpaeelaaGreatDoorRows
import GoSem.ClaimSeven
namespace Go.Proofs.YtnajhjmdpaeelaaGreatDoor
namespace Rows

/-- THE TIED CARD OF 'tallboylaw21.StrsTwins'. -/
def strsTwinsCard : Claim7 := { stood := { row := strsTwinsRow, standIns := [], harness := (true, "e5cc71857bee4a5682bd4b10c33d0a08ae273d037ffc2b8b6d1bf0eb130ed946"), looks := true }, kinds := [], alts := [], laidByText := true, laidKinds := [.handle], laidTests := true, laidLooks := .later }
def StrsTwinsCardSaid : Prop := Claim7.holds Tryz.pinned (.plain (OpenSpec.ofChange strsTwinsSpec)) strsTwinsCard

/-- THE TIED CARD OF 'tallboylaw21.StrsSets'. -/
def strsSetsCard : Claim7 := { stood := { row := strsSetsRow, standIns := [], harness := (true, "e5cc71857bee4a5682bd4b10c33d0a08ae273d037ffc2b8b6d1bf0eb130ed946"), looks := true }, kinds := [], alts := [], laidByText := true, laidKinds := [.handle], laidTests := true, laidLooks := .later }
def StrsSetsCardSaid : Prop := Claim7.holds Tryz.pinned (.plain (OpenSpec.ofChange strsSetsSpec)) strsSetsCard

/-- THE TIED CARD OF 'tallboylaw21.StrsKeeps'. -/
def strsKeepsCard : Claim7 := { stood := { row := strsKeepsRow, standIns := [], harness := (true, "e5cc71857bee4a5682bd4b10c33d0a08ae273d037ffc2b8b6d1bf0eb130ed946"), looks := true }, kinds := [], alts := [], laidByText := true, laidKinds := [.handle], laidTests := true, laidLooks := .later }
def StrsKeepsCardSaid : Prop := Claim7.holds Tryz.pinned (.plain (OpenSpec.ofChange strsKeepsSpec)) strsKeepsCard

/-- THE TIED CARD OF 'tallboylaw21.StrsMany'. -/
def strsManyCard : Claim7 := { stood := { row := strsManyRow, standIns := [], harness := (true, "e5cc71857bee4a5682bd4b10c33d0a08ae273d037ffc2b8b6d1bf0eb130ed946"), looks := true }, kinds := [], alts := [], laidByText := true, laidKinds := [.handle], laidTests := true, laidLooks := .later }
def StrsManyCardSaid : Prop := Claim7.holds Tryz.pinned (.plain (OpenSpec.ofChange strsManySpec)) strsManyCard

/-- THE SECOND FORM's CARD OF 'tallboylaw21.StrsTwins'. -/
def strsTwinsUptoCard : Claim7 := { stood := { row := strsTwinsUptoRow, standIns := [], harness := (true, "e5cc71857bee4a5682bd4b10c33d0a08ae273d037ffc2b8b6d1bf0eb130ed946"), looks := true }, kinds := [], alts := [], laidByText := true, laidKinds := [.handle], laidTests := true, laidLooks := .later }
def StrsTwinsUptoCardSaid : Prop := Claim7.holds Tryz.pinned (.plain (OpenSpec.upto strsTwinsSpec)) strsTwinsUptoCard

/-- THE SECOND FORM's CARD OF 'tallboylaw21.StrsSets'. -/
def strsSetsUptoCard : Claim7 := { stood := { row := strsSetsUptoRow, standIns := [], harness := (true, "e5cc71857bee4a5682bd4b10c33d0a08ae273d037ffc2b8b6d1bf0eb130ed946"), looks := true }, kinds := [], alts := [], laidByText := true, laidKinds := [.handle], laidTests := true, laidLooks := .later }
def StrsSetsUptoCardSaid : Prop := Claim7.holds Tryz.pinned (.plain (OpenSpec.upto strsSetsSpec)) strsSetsUptoCard

/-- THE SECOND FORM's CARD OF 'tallboylaw21.StrsKeeps'. -/
def strsKeepsUptoCard : Claim7 := { stood := { row := strsKeepsUptoRow, standIns := [], harness := (true, "e5cc71857bee4a5682bd4b10c33d0a08ae273d037ffc2b8b6d1bf0eb130ed946"), looks := true }, kinds := [], alts := [], laidByText := true, laidKinds := [.handle], laidTests := true, laidLooks := .later }
def StrsKeepsUptoCardSaid : Prop := Claim7.holds Tryz.pinned (.plain (OpenSpec.upto strsKeepsSpec)) strsKeepsUptoCard

/-- THE SECOND FORM's CARD OF 'tallboylaw21.StrsMany'. -/
def strsManyUptoCard : Claim7 := { stood := { row := strsManyUptoRow, standIns := [], harness := (true, "e5cc71857bee4a5682bd4b10c33d0a08ae273d037ffc2b8b6d1bf0eb130ed946"), looks := true }, kinds := [], alts := [], laidByText := true, laidKinds := [.handle], laidTests := true, laidLooks := .later }
def StrsManyUptoCardSaid : Prop := Claim7.holds Tryz.pinned (.plain (OpenSpec.upto strsManySpec)) strsManyUptoCard
end Rows
end Go.Proofs.YtnajhjmdpaeelaaGreatDoor
