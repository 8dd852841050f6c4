/-
  No cell of these rows narrows 'for every input' (looked for: loops, veiled, ifaces, maps, wideKeys, modest, calm, conditions, laid).
  DERIVED. THE GIVEN ROWS OF THIS SEAT. 6 by the template 'for every input the law returns true; each argument reads behind the call as it read before'; 0 by the template 'total and deterministic' (their statements: YtembjlckcgginaaGreatTotals.lean).
  GIVEN WITH THE SEED: the statements are not yours to turn. If you find one false, say at which input.
  Laid BY PROGRAM, IN A SANDBOX (cutbox-rows.mjs): the forced cells as the released guide's own fill.sh prints them over the translation f05070761aa80492… (all of the seat's roots in one cut). By AI agents, Wed Nov 11 2026. No macro, syntax, notation, axiom, sorry.
-/
import Derived.Test.YtembjlckcgginaaGreatChecked
import GoSem.Claim
import GoSem.ClaimJoined
import GoSem.ClaimMapViews
import Derived.JoinedTies
import Derived.KernelRfl
namespace Go.Proofs.YtembjlckcgginaaGreat
/- THE CELL 'sum', in the pinned program and in every row, IS THE sha256 OF THE DUMP (.gsa) THAT YtembjlckcgginaaGreatProg.lean LOADS. Nothing in Lean hashes anything: it is a label: what it is worth is what the hold of that sum in a sandbox is worth. -/
noncomputable def Tryz.pinned : Pinned := { name := "ytembjlckcgginaagreat", sum := "f05070761aa80492563f1f7a7d28fc31345f9c25a12e807e67a976990902c485", checked := Tryz.checked }
namespace Rows
def none {H : Type} : Left H := { results := [], args := [] }

/-- 'tallboylaw13.HmapNumbers': WHATEVER THE INPUT: true; the input reads as it did. -/
def hmapNumbersSpec : ChangeSpec := { name := "hmapNumbers", fn := fun _ => fun
  | [] => { results := [.lit (.bool true)], args := [] }
  | _ => none }
def hmapNumbersRow : OpenClaim := { program := "ytembjlckcgginaagreat", sum := "f05070761aa80492563f1f7a7d28fc31345f9c25a12e807e67a976990902c485", func := "tallboy/tallboylaw13.HmapNumbers", spec := "hmapNumbers", inPlace := ["slices.overlaps[byte]"], apart := false }
def HmapNumbersSaid : Prop := hmapNumbersRow.holds Tryz.pinned (OpenSpec.ofChange hmapNumbersSpec)

/-- ITS FALSE NEIGHBOUR: 'it returns false'. Refute it at one input. -/
def hmapNumbersWrong : ChangeSpec := { name := "hmapNumbers", fn := fun _ => fun
  | [] => { results := [.lit (.bool false)], args := [] }
  | _ => none }
def HmapNumbersWrongFalsely : Prop := hmapNumbersRow.holds Tryz.pinned (OpenSpec.ofChange hmapNumbersWrong)

/-- 'tallboylaw13.HmapPlays': WHATEVER THE INPUT: true; the input reads as it did. -/
def hmapPlaysSpec : ChangeSpec := { name := "hmapPlays", fn := fun _ => fun
  | [d1, d2, d3] => { results := [.lit (.bool true)], args := [d1, d2, d3] }
  | _ => none }
def hmapPlaysRow : OpenClaim := { program := "ytembjlckcgginaagreat", sum := "f05070761aa80492563f1f7a7d28fc31345f9c25a12e807e67a976990902c485", func := "tallboy/tallboylaw13.HmapPlays", spec := "hmapPlays", inPlace := ["slices.overlaps[byte]"], apart := false }
def HmapPlaysSaid : Prop := hmapPlaysRow.holds Tryz.pinned (OpenSpec.ofChange hmapPlaysSpec)

/-- ITS FALSE NEIGHBOUR: 'it returns false'. Refute it at one input. -/
def hmapPlaysWrong : ChangeSpec := { name := "hmapPlays", fn := fun _ => fun
  | [d1, d2, d3] => { results := [.lit (.bool false)], args := [d1, d2, d3] }
  | _ => none }
def HmapPlaysWrongFalsely : Prop := hmapPlaysRow.holds Tryz.pinned (OpenSpec.ofChange hmapPlaysWrong)

/-- 'tallboylaw13.HmapSeeds': WHATEVER THE INPUT: true; the input reads as it did. -/
def hmapSeedsSpec : ChangeSpec := { name := "hmapSeeds", fn := fun _ => fun
  | [d1, d2, d3] => { results := [.lit (.bool true)], args := [d1, d2, d3] }
  | _ => none }
def hmapSeedsRow : OpenClaim := { program := "ytembjlckcgginaagreat", sum := "f05070761aa80492563f1f7a7d28fc31345f9c25a12e807e67a976990902c485", func := "tallboy/tallboylaw13.HmapSeeds", spec := "hmapSeeds", inPlace := ["slices.overlaps[byte]"], apart := false }
def HmapSeedsSaid : Prop := hmapSeedsRow.holds Tryz.pinned (OpenSpec.ofChange hmapSeedsSpec)

/-- ITS FALSE NEIGHBOUR: 'it returns false'. Refute it at one input. -/
def hmapSeedsWrong : ChangeSpec := { name := "hmapSeeds", fn := fun _ => fun
  | [d1, d2, d3] => { results := [.lit (.bool false)], args := [d1, d2, d3] }
  | _ => none }
def HmapSeedsWrongFalsely : Prop := hmapSeedsRow.holds Tryz.pinned (OpenSpec.ofChange hmapSeedsWrong)

/-- 'tallboylaw13.HmapScans': WHATEVER THE INPUT: true; the input reads as it did. -/
def hmapScansSpec : ChangeSpec := { name := "hmapScans", fn := fun _ => fun
  | [d1, d2, d3, d4, d5] => { results := [.lit (.bool true)], args := [d1, d2, d3, d4, d5] }
  | _ => none }
def hmapScansRow : OpenClaim := { program := "ytembjlckcgginaagreat", sum := "f05070761aa80492563f1f7a7d28fc31345f9c25a12e807e67a976990902c485", func := "tallboy/tallboylaw13.HmapScans", spec := "hmapScans", inPlace := ["slices.overlaps[byte]"], apart := false }
def HmapScansSaid : Prop := hmapScansRow.holds Tryz.pinned (OpenSpec.ofChange hmapScansSpec)

/-- ITS FALSE NEIGHBOUR: 'it returns false'. Refute it at one input. -/
def hmapScansWrong : ChangeSpec := { name := "hmapScans", fn := fun _ => fun
  | [d1, d2, d3, d4, d5] => { results := [.lit (.bool false)], args := [d1, d2, d3, d4, d5] }
  | _ => none }
def HmapScansWrongFalsely : Prop := hmapScansRow.holds Tryz.pinned (OpenSpec.ofChange hmapScansWrong)

/-- 'tallboylaw13.HmapUpgrades': WHATEVER THE INPUT: true; the input reads as it did. -/
def hmapUpgradesSpec : ChangeSpec := { name := "hmapUpgrades", fn := fun _ => fun
  | [d1, d2, d3] => { results := [.lit (.bool true)], args := [d1, d2, d3] }
  | _ => none }
def hmapUpgradesRow : OpenClaim := { program := "ytembjlckcgginaagreat", sum := "f05070761aa80492563f1f7a7d28fc31345f9c25a12e807e67a976990902c485", func := "tallboy/tallboylaw13.HmapUpgrades", spec := "hmapUpgrades", inPlace := ["slices.overlaps[byte]"], apart := false }
def HmapUpgradesSaid : Prop := hmapUpgradesRow.holds Tryz.pinned (OpenSpec.ofChange hmapUpgradesSpec)

/-- ITS FALSE NEIGHBOUR: 'it returns false'. Refute it at one input. -/
def hmapUpgradesWrong : ChangeSpec := { name := "hmapUpgrades", fn := fun _ => fun
  | [d1, d2, d3] => { results := [.lit (.bool false)], args := [d1, d2, d3] }
  | _ => none }
def HmapUpgradesWrongFalsely : Prop := hmapUpgradesRow.holds Tryz.pinned (OpenSpec.ofChange hmapUpgradesWrong)

/-- 'tallboylaw13.HmapOrders': WHATEVER THE INPUT: true; the input reads as it did. -/
def hmapOrdersSpec : ChangeSpec := { name := "hmapOrders", fn := fun _ => fun
  | [d1, d2, d3] => { results := [.lit (.bool true)], args := [d1, d2, d3] }
  | _ => none }
def hmapOrdersRow : OpenClaim := { program := "ytembjlckcgginaagreat", sum := "f05070761aa80492563f1f7a7d28fc31345f9c25a12e807e67a976990902c485", func := "tallboy/tallboylaw13.HmapOrders", spec := "hmapOrders", inPlace := ["slices.overlaps[byte]"], apart := false }
def HmapOrdersSaid : Prop := hmapOrdersRow.holds Tryz.pinned (OpenSpec.ofChange hmapOrdersSpec)

/-- ITS FALSE NEIGHBOUR: 'it returns false'. Refute it at one input. -/
def hmapOrdersWrong : ChangeSpec := { name := "hmapOrders", fn := fun _ => fun
  | [d1, d2, d3] => { results := [.lit (.bool false)], args := [d1, d2, d3] }
  | _ => none }
def HmapOrdersWrongFalsely : Prop := hmapOrdersRow.holds Tryz.pinned (OpenSpec.ofChange hmapOrdersWrong)

/- THE SECOND FORM. 'bulk': how many values and letters a reading holds, each counted each time it is reached (what is shared counts as often as it is met; a slice's spare places count too). A statement '..UptoSaid' is the law's where the arguments, and the package variables that the reading takes, are together of bulk at most 1048576: NARROWER than '..Said'. Prove '..Said' where nothing that the law and all that it calls make is longer than what came in: it says more and counts as full. Else prove '..UptoSaid'. A law counts once. -/
mutual
def uptoBulk {H : Type} : DataW H → Nat
  | .lit (.string bytes) => bytes.length + 1
  | .lit _ => 1
  | .nil => 1
  | .ptr d => uptoBulk d + 1
  | .slice elems spare => uptoBulkAll elems + uptoBulkAll spare + 1
  | .agg parts => uptoBulkAll parts + 1
  | .iface _ d => uptoBulk d + 1
  | .map entries => uptoBulkEntries entries + 1
  | .held _ => 1
def uptoBulkAll {H : Type} : List (DataW H) → Nat
  | [] => 0
  | d :: r => uptoBulk d + uptoBulkAll r
def uptoBulkEntries {H : Type} : List (Lit × DataW H) → Nat
  | [] => 0
  | x :: r => uptoBulkEntry x + uptoBulkEntries r
def uptoBulkEntry {H : Type} : Lit × DataW H → Nat
  | (.string bytes, d) => bytes.length + uptoBulk d + 1
  | (_, d) => uptoBulk d + 1
 end
def uptoSmall : (H : Type) → List (DataW H) → Bool := fun _ ds => decide (uptoBulkAll ds ≤ 1048576)
def OpenSpec.upto (s : _root_.Go.ChangeSpec) : _root_.Go.OpenSpec := { _root_.Go.OpenSpec.ofChange s with cond := some uptoSmall }

/-- 'tallboylaw13.HmapNumbers', WHERE WHAT IT READS IS OF BULK AT MOST 1048576: true; the input reads as it did. -/
def hmapNumbersUptoRow : OpenClaim := { program := "ytembjlckcgginaagreat", sum := "f05070761aa80492563f1f7a7d28fc31345f9c25a12e807e67a976990902c485", func := "tallboy/tallboylaw13.HmapNumbers", spec := "hmapNumbers", inPlace := ["slices.overlaps[byte]"], apart := false, narrowed := true }
def HmapNumbersUptoSaid : Prop := hmapNumbersUptoRow.holds Tryz.pinned (OpenSpec.upto hmapNumbersSpec)

/-- 'tallboylaw13.HmapPlays', WHERE WHAT IT READS IS OF BULK AT MOST 1048576: true; the input reads as it did. -/
def hmapPlaysUptoRow : OpenClaim := { program := "ytembjlckcgginaagreat", sum := "f05070761aa80492563f1f7a7d28fc31345f9c25a12e807e67a976990902c485", func := "tallboy/tallboylaw13.HmapPlays", spec := "hmapPlays", inPlace := ["slices.overlaps[byte]"], apart := false, narrowed := true }
def HmapPlaysUptoSaid : Prop := hmapPlaysUptoRow.holds Tryz.pinned (OpenSpec.upto hmapPlaysSpec)

/-- 'tallboylaw13.HmapSeeds', WHERE WHAT IT READS IS OF BULK AT MOST 1048576: true; the input reads as it did. -/
def hmapSeedsUptoRow : OpenClaim := { program := "ytembjlckcgginaagreat", sum := "f05070761aa80492563f1f7a7d28fc31345f9c25a12e807e67a976990902c485", func := "tallboy/tallboylaw13.HmapSeeds", spec := "hmapSeeds", inPlace := ["slices.overlaps[byte]"], apart := false, narrowed := true }
def HmapSeedsUptoSaid : Prop := hmapSeedsUptoRow.holds Tryz.pinned (OpenSpec.upto hmapSeedsSpec)

/-- 'tallboylaw13.HmapScans', WHERE WHAT IT READS IS OF BULK AT MOST 1048576: true; the input reads as it did. -/
def hmapScansUptoRow : OpenClaim := { program := "ytembjlckcgginaagreat", sum := "f05070761aa80492563f1f7a7d28fc31345f9c25a12e807e67a976990902c485", func := "tallboy/tallboylaw13.HmapScans", spec := "hmapScans", inPlace := ["slices.overlaps[byte]"], apart := false, narrowed := true }
def HmapScansUptoSaid : Prop := hmapScansUptoRow.holds Tryz.pinned (OpenSpec.upto hmapScansSpec)

/-- 'tallboylaw13.HmapUpgrades', WHERE WHAT IT READS IS OF BULK AT MOST 1048576: true; the input reads as it did. -/
def hmapUpgradesUptoRow : OpenClaim := { program := "ytembjlckcgginaagreat", sum := "f05070761aa80492563f1f7a7d28fc31345f9c25a12e807e67a976990902c485", func := "tallboy/tallboylaw13.HmapUpgrades", spec := "hmapUpgrades", inPlace := ["slices.overlaps[byte]"], apart := false, narrowed := true }
def HmapUpgradesUptoSaid : Prop := hmapUpgradesUptoRow.holds Tryz.pinned (OpenSpec.upto hmapUpgradesSpec)

/-- 'tallboylaw13.HmapOrders', WHERE WHAT IT READS IS OF BULK AT MOST 1048576: true; the input reads as it did. -/
def hmapOrdersUptoRow : OpenClaim := { program := "ytembjlckcgginaagreat", sum := "f05070761aa80492563f1f7a7d28fc31345f9c25a12e807e67a976990902c485", func := "tallboy/tallboylaw13.HmapOrders", spec := "hmapOrders", inPlace := ["slices.overlaps[byte]"], apart := false, narrowed := true }
def HmapOrdersUptoSaid : Prop := hmapOrdersUptoRow.holds Tryz.pinned (OpenSpec.upto hmapOrdersSpec)

end Rows
end Go.Proofs.YtembjlckcgginaaGreat
