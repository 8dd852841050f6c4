/-
  No cell of these rows narrows 'for every input' (looked for: loops, veiled, ifaces, maps, wideKeys, modest, calm, conditions, laid).
  DERIVED. THE GIVEN ROWS OF THIS SEAT. 6 by the template 'for every input the law returns true; each argument reads behind the call as it read before'; 0 by the template 'total and deterministic' (their statements: YtmjeljldmmkcpaaGreatTotals.lean).
  GIVEN WITH THE SEED: the statements are not yours to turn. If you find one false, say at which input.
  Laid BY PROGRAM, IN A SANDBOX (cutbox-rows.mjs): the forced cells as the released guide's own fill.sh prints them over the translation d7dd9d3b0f7e000f… (all of the seat's roots in one cut). By AI agents, Wed Nov 11 2026. No macro, syntax, notation, axiom, sorry.
-/
import Derived.Test.YtmjeljldmmkcpaaGreatChecked
import GoSem.Claim
import GoSem.ClaimJoined
import GoSem.ClaimMapViews
import Derived.JoinedTies
import Derived.KernelRfl
namespace Go.Proofs.YtmjeljldmmkcpaaGreat
/- THE CELL 'sum', in the pinned program and in every row, IS THE sha256 OF THE DUMP (.gsa) THAT YtmjeljldmmkcpaaGreatProg.lean LOADS. Nothing in Lean hashes anything: it is a label: what it is worth is what the hold of that sum in a sandbox is worth. -/
noncomputable def Tryz.pinned : Pinned := { name := "ytmjeljldmmkcpaagreat", sum := "d7dd9d3b0f7e000fb20e365f7eec1bf436a40bea25090d805bfaa9551e7d5804", checked := Tryz.checked }
namespace Rows
def none {H : Type} : Left H := { results := [], args := [] }

/-- 'tallboylaw16.SpaceNumbers': WHATEVER THE INPUT: true; the input reads as it did. -/
def spaceNumbersSpec : ChangeSpec := { name := "spaceNumbers", fn := fun _ => fun
  | [] => { results := [.lit (.bool true)], args := [] }
  | _ => none }
def spaceNumbersRow : OpenClaim := { program := "ytmjeljldmmkcpaagreat", sum := "d7dd9d3b0f7e000fb20e365f7eec1bf436a40bea25090d805bfaa9551e7d5804", func := "tallboy/tallboylaw16.SpaceNumbers", spec := "spaceNumbers", inPlace := ["slices.overlaps[byte]"], unfollowed := true, recurses := true, apart := false }
def SpaceNumbersSaid : Prop := spaceNumbersRow.holds Tryz.pinned (OpenSpec.ofChange spaceNumbersSpec)

/-- ITS FALSE NEIGHBOUR: 'it returns false'. Refute it at one input. -/
def spaceNumbersWrong : ChangeSpec := { name := "spaceNumbers", fn := fun _ => fun
  | [] => { results := [.lit (.bool false)], args := [] }
  | _ => none }
def SpaceNumbersWrongFalsely : Prop := spaceNumbersRow.holds Tryz.pinned (OpenSpec.ofChange spaceNumbersWrong)

/-- 'tallboylaw16.SpacePlays': WHATEVER THE INPUT: true; the input reads as it did. -/
def spacePlaysSpec : ChangeSpec := { name := "spacePlays", fn := fun _ => fun
  | [d1, d2] => { results := [.lit (.bool true)], args := [d1, d2] }
  | _ => none }
def spacePlaysRow : OpenClaim := { program := "ytmjeljldmmkcpaagreat", sum := "d7dd9d3b0f7e000fb20e365f7eec1bf436a40bea25090d805bfaa9551e7d5804", func := "tallboy/tallboylaw16.SpacePlays", spec := "spacePlays", inPlace := ["slices.overlaps[byte]"], unfollowed := true, recurses := true, apart := false }
def SpacePlaysSaid : Prop := spacePlaysRow.holds Tryz.pinned (OpenSpec.ofChange spacePlaysSpec)

/-- ITS FALSE NEIGHBOUR: 'it returns false'. Refute it at one input. -/
def spacePlaysWrong : ChangeSpec := { name := "spacePlays", fn := fun _ => fun
  | [d1, d2] => { results := [.lit (.bool false)], args := [d1, d2] }
  | _ => none }
def SpacePlaysWrongFalsely : Prop := spacePlaysRow.holds Tryz.pinned (OpenSpec.ofChange spacePlaysWrong)

/-- 'tallboylaw16.SpaceCycles': WHATEVER THE INPUT: true; the input reads as it did. -/
def spaceCyclesSpec : ChangeSpec := { name := "spaceCycles", fn := fun _ => fun
  | [d1, d2, d3] => { results := [.lit (.bool true)], args := [d1, d2, d3] }
  | _ => none }
def spaceCyclesRow : OpenClaim := { program := "ytmjeljldmmkcpaagreat", sum := "d7dd9d3b0f7e000fb20e365f7eec1bf436a40bea25090d805bfaa9551e7d5804", func := "tallboy/tallboylaw16.SpaceCycles", spec := "spaceCycles", inPlace := ["slices.overlaps[byte]"], unfollowed := true, recurses := true, apart := false }
def SpaceCyclesSaid : Prop := spaceCyclesRow.holds Tryz.pinned (OpenSpec.ofChange spaceCyclesSpec)

/-- ITS FALSE NEIGHBOUR: 'it returns false'. Refute it at one input. -/
def spaceCyclesWrong : ChangeSpec := { name := "spaceCycles", fn := fun _ => fun
  | [d1, d2, d3] => { results := [.lit (.bool false)], args := [d1, d2, d3] }
  | _ => none }
def SpaceCyclesWrongFalsely : Prop := spaceCyclesRow.holds Tryz.pinned (OpenSpec.ofChange spaceCyclesWrong)

/-- 'tallboylaw16.SpaceScans': WHATEVER THE INPUT: true; the input reads as it did. -/
def spaceScansSpec : ChangeSpec := { name := "spaceScans", fn := fun _ => fun
  | [d1, d2, d3, d4] => { results := [.lit (.bool true)], args := [d1, d2, d3, d4] }
  | _ => none }
def spaceScansRow : OpenClaim := { program := "ytmjeljldmmkcpaagreat", sum := "d7dd9d3b0f7e000fb20e365f7eec1bf436a40bea25090d805bfaa9551e7d5804", func := "tallboy/tallboylaw16.SpaceScans", spec := "spaceScans", unfollowed := true, recurses := true, apart := false }
def SpaceScansSaid : Prop := spaceScansRow.holds Tryz.pinned (OpenSpec.ofChange spaceScansSpec)

/-- ITS FALSE NEIGHBOUR: 'it returns false'. Refute it at one input. -/
def spaceScansWrong : ChangeSpec := { name := "spaceScans", fn := fun _ => fun
  | [d1, d2, d3, d4] => { results := [.lit (.bool false)], args := [d1, d2, d3, d4] }
  | _ => none }
def SpaceScansWrongFalsely : Prop := spaceScansRow.holds Tryz.pinned (OpenSpec.ofChange spaceScansWrong)

/-- 'tallboylaw16.SpaceVersions': WHATEVER THE INPUT: true; the input reads as it did. -/
def spaceVersionsSpec : ChangeSpec := { name := "spaceVersions", fn := fun _ => fun
  | [d1, d2] => { results := [.lit (.bool true)], args := [d1, d2] }
  | _ => none }
def spaceVersionsRow : OpenClaim := { program := "ytmjeljldmmkcpaagreat", sum := "d7dd9d3b0f7e000fb20e365f7eec1bf436a40bea25090d805bfaa9551e7d5804", func := "tallboy/tallboylaw16.SpaceVersions", spec := "spaceVersions", apart := false }
def SpaceVersionsSaid : Prop := spaceVersionsRow.holds Tryz.pinned (OpenSpec.ofChange spaceVersionsSpec)

/-- ITS FALSE NEIGHBOUR: 'it returns false'. Refute it at one input. -/
def spaceVersionsWrong : ChangeSpec := { name := "spaceVersions", fn := fun _ => fun
  | [d1, d2] => { results := [.lit (.bool false)], args := [d1, d2] }
  | _ => none }
def SpaceVersionsWrongFalsely : Prop := spaceVersionsRow.holds Tryz.pinned (OpenSpec.ofChange spaceVersionsWrong)

/-- 'tallboylaw16.SpaceRenames': WHATEVER THE INPUT: true; the input reads as it did. -/
def spaceRenamesSpec : ChangeSpec := { name := "spaceRenames", fn := fun _ => fun
  | [d1, d2, d3] => { results := [.lit (.bool true)], args := [d1, d2, d3] }
  | _ => none }
def spaceRenamesRow : OpenClaim := { program := "ytmjeljldmmkcpaagreat", sum := "d7dd9d3b0f7e000fb20e365f7eec1bf436a40bea25090d805bfaa9551e7d5804", func := "tallboy/tallboylaw16.SpaceRenames", spec := "spaceRenames", apart := false }
def SpaceRenamesSaid : Prop := spaceRenamesRow.holds Tryz.pinned (OpenSpec.ofChange spaceRenamesSpec)

/-- ITS FALSE NEIGHBOUR: 'it returns false'. Refute it at one input. -/
def spaceRenamesWrong : ChangeSpec := { name := "spaceRenames", fn := fun _ => fun
  | [d1, d2, d3] => { results := [.lit (.bool false)], args := [d1, d2, d3] }
  | _ => none }
def SpaceRenamesWrongFalsely : Prop := spaceRenamesRow.holds Tryz.pinned (OpenSpec.ofChange spaceRenamesWrong)

/- THE SECOND FORM. 'bulk': how many values and letters a reading holds, each counted each time it is reached (what is shared counts as often as it is met; a slice's spare places count too). A statement '..UptoSaid' is the law's where the arguments, and the package variables that the reading takes, are together of bulk at most 1048576: NARROWER than '..Said'. Prove '..Said' where nothing that the law and all that it calls make is longer than what came in: it says more and counts as full. Else prove '..UptoSaid'. A law counts once. -/
mutual
def uptoBulk {H : Type} : DataW H → Nat
  | .lit (.string bytes) => bytes.length + 1
  | .lit _ => 1
  | .nil => 1
  | .ptr d => uptoBulk d + 1
  | .slice elems spare => uptoBulkAll elems + uptoBulkAll spare + 1
  | .agg parts => uptoBulkAll parts + 1
  | .iface _ d => uptoBulk d + 1
  | .map entries => uptoBulkEntries entries + 1
  | .held _ => 1
def uptoBulkAll {H : Type} : List (DataW H) → Nat
  | [] => 0
  | d :: r => uptoBulk d + uptoBulkAll r
def uptoBulkEntries {H : Type} : List (Lit × DataW H) → Nat
  | [] => 0
  | x :: r => uptoBulkEntry x + uptoBulkEntries r
def uptoBulkEntry {H : Type} : Lit × DataW H → Nat
  | (.string bytes, d) => bytes.length + uptoBulk d + 1
  | (_, d) => uptoBulk d + 1
 end
def uptoSmall : (H : Type) → List (DataW H) → Bool := fun _ ds => decide (uptoBulkAll ds ≤ 1048576)
def OpenSpec.upto (s : _root_.Go.ChangeSpec) : _root_.Go.OpenSpec := { _root_.Go.OpenSpec.ofChange s with cond := some uptoSmall }

/-- 'tallboylaw16.SpaceNumbers', WHERE WHAT IT READS IS OF BULK AT MOST 1048576: true; the input reads as it did. -/
def spaceNumbersUptoRow : OpenClaim := { program := "ytmjeljldmmkcpaagreat", sum := "d7dd9d3b0f7e000fb20e365f7eec1bf436a40bea25090d805bfaa9551e7d5804", func := "tallboy/tallboylaw16.SpaceNumbers", spec := "spaceNumbers", inPlace := ["slices.overlaps[byte]"], unfollowed := true, recurses := true, apart := false, narrowed := true }
def SpaceNumbersUptoSaid : Prop := spaceNumbersUptoRow.holds Tryz.pinned (OpenSpec.upto spaceNumbersSpec)

/-- 'tallboylaw16.SpacePlays', WHERE WHAT IT READS IS OF BULK AT MOST 1048576: true; the input reads as it did. -/
def spacePlaysUptoRow : OpenClaim := { program := "ytmjeljldmmkcpaagreat", sum := "d7dd9d3b0f7e000fb20e365f7eec1bf436a40bea25090d805bfaa9551e7d5804", func := "tallboy/tallboylaw16.SpacePlays", spec := "spacePlays", inPlace := ["slices.overlaps[byte]"], unfollowed := true, recurses := true, apart := false, narrowed := true }
def SpacePlaysUptoSaid : Prop := spacePlaysUptoRow.holds Tryz.pinned (OpenSpec.upto spacePlaysSpec)

/-- 'tallboylaw16.SpaceCycles', WHERE WHAT IT READS IS OF BULK AT MOST 1048576: true; the input reads as it did. -/
def spaceCyclesUptoRow : OpenClaim := { program := "ytmjeljldmmkcpaagreat", sum := "d7dd9d3b0f7e000fb20e365f7eec1bf436a40bea25090d805bfaa9551e7d5804", func := "tallboy/tallboylaw16.SpaceCycles", spec := "spaceCycles", inPlace := ["slices.overlaps[byte]"], unfollowed := true, recurses := true, apart := false, narrowed := true }
def SpaceCyclesUptoSaid : Prop := spaceCyclesUptoRow.holds Tryz.pinned (OpenSpec.upto spaceCyclesSpec)

/-- 'tallboylaw16.SpaceScans', WHERE WHAT IT READS IS OF BULK AT MOST 1048576: true; the input reads as it did. -/
def spaceScansUptoRow : OpenClaim := { program := "ytmjeljldmmkcpaagreat", sum := "d7dd9d3b0f7e000fb20e365f7eec1bf436a40bea25090d805bfaa9551e7d5804", func := "tallboy/tallboylaw16.SpaceScans", spec := "spaceScans", unfollowed := true, recurses := true, apart := false, narrowed := true }
def SpaceScansUptoSaid : Prop := spaceScansUptoRow.holds Tryz.pinned (OpenSpec.upto spaceScansSpec)

/-- 'tallboylaw16.SpaceVersions', WHERE WHAT IT READS IS OF BULK AT MOST 1048576: true; the input reads as it did. -/
def spaceVersionsUptoRow : OpenClaim := { program := "ytmjeljldmmkcpaagreat", sum := "d7dd9d3b0f7e000fb20e365f7eec1bf436a40bea25090d805bfaa9551e7d5804", func := "tallboy/tallboylaw16.SpaceVersions", spec := "spaceVersions", apart := false, narrowed := true }
def SpaceVersionsUptoSaid : Prop := spaceVersionsUptoRow.holds Tryz.pinned (OpenSpec.upto spaceVersionsSpec)

/-- 'tallboylaw16.SpaceRenames', WHERE WHAT IT READS IS OF BULK AT MOST 1048576: true; the input reads as it did. -/
def spaceRenamesUptoRow : OpenClaim := { program := "ytmjeljldmmkcpaagreat", sum := "d7dd9d3b0f7e000fb20e365f7eec1bf436a40bea25090d805bfaa9551e7d5804", func := "tallboy/tallboylaw16.SpaceRenames", spec := "spaceRenames", apart := false, narrowed := true }
def SpaceRenamesUptoSaid : Prop := spaceRenamesUptoRow.holds Tryz.pinned (OpenSpec.upto spaceRenamesSpec)

end Rows
end Go.Proofs.YtmjeljldmmkcpaaGreat
