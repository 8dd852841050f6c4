/-
  No cell of these rows narrows 'for every input' (looked for: loops, veiled, ifaces, maps, wideKeys, modest, calm, conditions, laid).
  DERIVED. THE GIVEN ROWS OF THIS SEAT. 5 by the template 'for every input the law returns true; each argument reads behind the call as it read before'; 0 by the template 'total and deterministic' (their statements: YtnmonhendidhkaaTotals.lean).
  GIVEN WITH THE SEED: the statements are not yours to turn. If you find one false, say at which input.
  Laid BY PROGRAM, IN A SANDBOX (cutbox-rows.mjs): the forced cells as the released guide's own fill.sh prints them over the translation ed6667c6757b2d0f… (all of the seat's roots in one cut). By AI agents, Wed Nov 11 2026. No macro, syntax, notation, axiom, sorry.
-/
import Derived.Test.YtnmonhendidhkaaChecked
import GoSem.Claim
import GoSem.ClaimJoined
import GoSem.ClaimMapViews
import Derived.JoinedTies
import Derived.KernelRfl
namespace Go.Proofs.Ytnmonhendidhkaa
/- THE CELL 'sum', in the pinned program and in every row, IS THE sha256 OF THE DUMP (.gsa) THAT YtnmonhendidhkaaProg.lean LOADS. Nothing in Lean hashes anything: it is a label: what it is worth is what the hold of that sum in a sandbox is worth. -/
noncomputable def Try.pinned : Pinned := { name := "ytnmonhendidhkaa", sum := "ed6667c6757b2d0f1359a7299f50d7fc3d87050f4409c4ea828373b52efa91ec", checked := Try.checked }
namespace Rows
def none {H : Type} : Left H := { results := [], args := [] }

/-- 'tallboylaw8.TableNumbers': WHATEVER THE INPUT: true; the input reads as it did. -/
def tableNumbersSpec : ChangeSpec := { name := "tableNumbers", fn := fun _ => fun
  | [] => { results := [.lit (.bool true)], args := [] }
  | _ => none }
def tableNumbersRow : OpenClaim := { program := "ytnmonhendidhkaa", sum := "ed6667c6757b2d0f1359a7299f50d7fc3d87050f4409c4ea828373b52efa91ec", func := "tallboy/tallboylaw8.TableNumbers", spec := "tableNumbers", apart := false }
def TableNumbersSaid : Prop := tableNumbersRow.holds Try.pinned (OpenSpec.ofChange tableNumbersSpec)

/-- ITS FALSE NEIGHBOUR: 'it returns false'. Refute it at one input. -/
def tableNumbersWrong : ChangeSpec := { name := "tableNumbers", fn := fun _ => fun
  | [] => { results := [.lit (.bool false)], args := [] }
  | _ => none }
def TableNumbersWrongFalsely : Prop := tableNumbersRow.holds Try.pinned (OpenSpec.ofChange tableNumbersWrong)

/-- 'tallboylaw8.TablePlays': WHATEVER THE INPUT: true; the input reads as it did. -/
def tablePlaysSpec : ChangeSpec := { name := "tablePlays", fn := fun _ => fun
  | [d1, d2] => { results := [.lit (.bool true)], args := [d1, d2] }
  | _ => none }
def tablePlaysRow : OpenClaim := { program := "ytnmonhendidhkaa", sum := "ed6667c6757b2d0f1359a7299f50d7fc3d87050f4409c4ea828373b52efa91ec", func := "tallboy/tallboylaw8.TablePlays", spec := "tablePlays", apart := false }
def TablePlaysSaid : Prop := tablePlaysRow.holds Try.pinned (OpenSpec.ofChange tablePlaysSpec)

/-- ITS FALSE NEIGHBOUR: 'it returns false'. Refute it at one input. -/
def tablePlaysWrong : ChangeSpec := { name := "tablePlays", fn := fun _ => fun
  | [d1, d2] => { results := [.lit (.bool false)], args := [d1, d2] }
  | _ => none }
def TablePlaysWrongFalsely : Prop := tablePlaysRow.holds Try.pinned (OpenSpec.ofChange tablePlaysWrong)

/-- 'tallboylaw8.TableSplits': WHATEVER THE INPUT: true; the input reads as it did. -/
def tableSplitsSpec : ChangeSpec := { name := "tableSplits", fn := fun _ => fun
  | [d1, d2, d3] => { results := [.lit (.bool true)], args := [d1, d2, d3] }
  | _ => none }
def tableSplitsRow : OpenClaim := { program := "ytnmonhendidhkaa", sum := "ed6667c6757b2d0f1359a7299f50d7fc3d87050f4409c4ea828373b52efa91ec", func := "tallboy/tallboylaw8.TableSplits", spec := "tableSplits", apart := false }
def TableSplitsSaid : Prop := tableSplitsRow.holds Try.pinned (OpenSpec.ofChange tableSplitsSpec)

/-- ITS FALSE NEIGHBOUR: 'it returns false'. Refute it at one input. -/
def tableSplitsWrong : ChangeSpec := { name := "tableSplits", fn := fun _ => fun
  | [d1, d2, d3] => { results := [.lit (.bool false)], args := [d1, d2, d3] }
  | _ => none }
def TableSplitsWrongFalsely : Prop := tableSplitsRow.holds Try.pinned (OpenSpec.ofChange tableSplitsWrong)

/-- 'tallboylaw8.TableChurns': WHATEVER THE INPUT: true; the input reads as it did. -/
def tableChurnsSpec : ChangeSpec := { name := "tableChurns", fn := fun _ => fun
  | [d1, d2, d3] => { results := [.lit (.bool true)], args := [d1, d2, d3] }
  | _ => none }
def tableChurnsRow : OpenClaim := { program := "ytnmonhendidhkaa", sum := "ed6667c6757b2d0f1359a7299f50d7fc3d87050f4409c4ea828373b52efa91ec", func := "tallboy/tallboylaw8.TableChurns", spec := "tableChurns", apart := false }
def TableChurnsSaid : Prop := tableChurnsRow.holds Try.pinned (OpenSpec.ofChange tableChurnsSpec)

/-- ITS FALSE NEIGHBOUR: 'it returns false'. Refute it at one input. -/
def tableChurnsWrong : ChangeSpec := { name := "tableChurns", fn := fun _ => fun
  | [d1, d2, d3] => { results := [.lit (.bool false)], args := [d1, d2, d3] }
  | _ => none }
def TableChurnsWrongFalsely : Prop := tableChurnsRow.holds Try.pinned (OpenSpec.ofChange tableChurnsWrong)

/-- 'tallboylaw8.TableSeeds': WHATEVER THE INPUT: true; the input reads as it did. -/
def tableSeedsSpec : ChangeSpec := { name := "tableSeeds", fn := fun _ => fun
  | [d1, d2, d3] => { results := [.lit (.bool true)], args := [d1, d2, d3] }
  | _ => none }
def tableSeedsRow : OpenClaim := { program := "ytnmonhendidhkaa", sum := "ed6667c6757b2d0f1359a7299f50d7fc3d87050f4409c4ea828373b52efa91ec", func := "tallboy/tallboylaw8.TableSeeds", spec := "tableSeeds", apart := false }
def TableSeedsSaid : Prop := tableSeedsRow.holds Try.pinned (OpenSpec.ofChange tableSeedsSpec)

/-- ITS FALSE NEIGHBOUR: 'it returns false'. Refute it at one input. -/
def tableSeedsWrong : ChangeSpec := { name := "tableSeeds", fn := fun _ => fun
  | [d1, d2, d3] => { results := [.lit (.bool false)], args := [d1, d2, d3] }
  | _ => none }
def TableSeedsWrongFalsely : Prop := tableSeedsRow.holds Try.pinned (OpenSpec.ofChange tableSeedsWrong)

/- THE SECOND FORM. 'bulk': how many values and letters a reading holds, each counted each time it is reached (what is shared counts as often as it is met; a slice's spare places count too). A statement '..UptoSaid' is the law's where the arguments, and the package variables that the reading takes, are together of bulk at most 1048576: NARROWER than '..Said'. Prove '..Said' where nothing that the law and all that it calls make is longer than what came in: it says more and counts as full. Else prove '..UptoSaid'. A law counts once. -/
mutual
def uptoBulk {H : Type} : DataW H → Nat
  | .lit (.string bytes) => bytes.length + 1
  | .lit _ => 1
  | .nil => 1
  | .ptr d => uptoBulk d + 1
  | .slice elems spare => uptoBulkAll elems + uptoBulkAll spare + 1
  | .agg parts => uptoBulkAll parts + 1
  | .iface _ d => uptoBulk d + 1
  | .map entries => uptoBulkEntries entries + 1
  | .held _ => 1
def uptoBulkAll {H : Type} : List (DataW H) → Nat
  | [] => 0
  | d :: r => uptoBulk d + uptoBulkAll r
def uptoBulkEntries {H : Type} : List (Lit × DataW H) → Nat
  | [] => 0
  | x :: r => uptoBulkEntry x + uptoBulkEntries r
def uptoBulkEntry {H : Type} : Lit × DataW H → Nat
  | (.string bytes, d) => bytes.length + uptoBulk d + 1
  | (_, d) => uptoBulk d + 1
 end
def uptoSmall : (H : Type) → List (DataW H) → Bool := fun _ ds => decide (uptoBulkAll ds ≤ 1048576)
def OpenSpec.upto (s : _root_.Go.ChangeSpec) : _root_.Go.OpenSpec := { _root_.Go.OpenSpec.ofChange s with cond := some uptoSmall }

/-- 'tallboylaw8.TableNumbers', WHERE WHAT IT READS IS OF BULK AT MOST 1048576: true; the input reads as it did. -/
def tableNumbersUptoRow : OpenClaim := { program := "ytnmonhendidhkaa", sum := "ed6667c6757b2d0f1359a7299f50d7fc3d87050f4409c4ea828373b52efa91ec", func := "tallboy/tallboylaw8.TableNumbers", spec := "tableNumbers", apart := false, narrowed := true }
def TableNumbersUptoSaid : Prop := tableNumbersUptoRow.holds Try.pinned (OpenSpec.upto tableNumbersSpec)

/-- 'tallboylaw8.TablePlays', WHERE WHAT IT READS IS OF BULK AT MOST 1048576: true; the input reads as it did. -/
def tablePlaysUptoRow : OpenClaim := { program := "ytnmonhendidhkaa", sum := "ed6667c6757b2d0f1359a7299f50d7fc3d87050f4409c4ea828373b52efa91ec", func := "tallboy/tallboylaw8.TablePlays", spec := "tablePlays", apart := false, narrowed := true }
def TablePlaysUptoSaid : Prop := tablePlaysUptoRow.holds Try.pinned (OpenSpec.upto tablePlaysSpec)

/-- 'tallboylaw8.TableSplits', WHERE WHAT IT READS IS OF BULK AT MOST 1048576: true; the input reads as it did. -/
def tableSplitsUptoRow : OpenClaim := { program := "ytnmonhendidhkaa", sum := "ed6667c6757b2d0f1359a7299f50d7fc3d87050f4409c4ea828373b52efa91ec", func := "tallboy/tallboylaw8.TableSplits", spec := "tableSplits", apart := false, narrowed := true }
def TableSplitsUptoSaid : Prop := tableSplitsUptoRow.holds Try.pinned (OpenSpec.upto tableSplitsSpec)

/-- 'tallboylaw8.TableChurns', WHERE WHAT IT READS IS OF BULK AT MOST 1048576: true; the input reads as it did. -/
def tableChurnsUptoRow : OpenClaim := { program := "ytnmonhendidhkaa", sum := "ed6667c6757b2d0f1359a7299f50d7fc3d87050f4409c4ea828373b52efa91ec", func := "tallboy/tallboylaw8.TableChurns", spec := "tableChurns", apart := false, narrowed := true }
def TableChurnsUptoSaid : Prop := tableChurnsUptoRow.holds Try.pinned (OpenSpec.upto tableChurnsSpec)

/-- 'tallboylaw8.TableSeeds', WHERE WHAT IT READS IS OF BULK AT MOST 1048576: true; the input reads as it did. -/
def tableSeedsUptoRow : OpenClaim := { program := "ytnmonhendidhkaa", sum := "ed6667c6757b2d0f1359a7299f50d7fc3d87050f4409c4ea828373b52efa91ec", func := "tallboy/tallboylaw8.TableSeeds", spec := "tableSeeds", apart := false, narrowed := true }
def TableSeedsUptoSaid : Prop := tableSeedsUptoRow.holds Try.pinned (OpenSpec.upto tableSeedsSpec)

end Rows
end Go.Proofs.Ytnmonhendidhkaa
