/-
  No cell of these rows narrows 'for every input' (looked for: loops, veiled, ifaces, maps, wideKeys, modest, calm, conditions, laid).
  DERIVED. THE GIVEN ROWS OF THIS SEAT. 6 by the template 'for every input the law returns true; each argument reads behind the call as it read before'; 0 by the template 'total and deterministic' (their statements: YtemiajjjhhofaabTotals.lean).
  GIVEN WITH THE SEED: the statements are not yours to turn. If you find one false, say at which input.
  Laid BY PROGRAM, IN A SANDBOX (cutbox-rows.mjs): the forced cells as the released guide's own fill.sh prints them over the translation 020c2f3d1b271f8d… (all of the seat's roots in one cut). By AI agents, Wed Nov 11 2026. No macro, syntax, notation, axiom, sorry.
-/
import Derived.Test.YtemiajjjhhofaabChecked
import GoSem.Claim
import GoSem.ClaimJoined
import GoSem.ClaimMapViews
import Derived.JoinedTies
import Derived.KernelRfl
namespace Go.Proofs.Ytemiajjjhhofaab
/- THE CELL 'sum', in the pinned program and in every row, IS THE sha256 OF THE DUMP (.gsa) THAT YtemiajjjhhofaabProg.lean LOADS. Nothing in Lean hashes anything: it is a label: what it is worth is what the hold of that sum in a sandbox is worth. -/
noncomputable def Try.pinned : Pinned := { name := "ytemiajjjhhofaab", sum := "020c2f3d1b271f8d0dc22f8e61aa875bb219de00b9366d41532629b977453bdb", checked := Try.checked }
namespace Rows
def none {H : Type} : Left H := { results := [], args := [] }

/-- 'tallboylaw5.PackSets': WHATEVER THE INPUT: true; the input reads as it did. -/
def packSetsSpec : ChangeSpec := { name := "packSets", fn := fun _ => fun
  | [d1, d2, d3] => { results := [.lit (.bool true)], args := [d1, d2, d3] }
  | _ => none }
def packSetsRow : OpenClaim := { program := "ytemiajjjhhofaab", sum := "020c2f3d1b271f8d0dc22f8e61aa875bb219de00b9366d41532629b977453bdb", func := "tallboy/tallboylaw5.PackSets", spec := "packSets", inPlace := ["slices.overlaps[byte]"], apart := false }
def PackSetsSaid : Prop := packSetsRow.holds Try.pinned (OpenSpec.ofChange packSetsSpec)

/-- ITS FALSE NEIGHBOUR: 'it returns false'. Refute it at one input. -/
def packSetsWrong : ChangeSpec := { name := "packSets", fn := fun _ => fun
  | [d1, d2, d3] => { results := [.lit (.bool false)], args := [d1, d2, d3] }
  | _ => none }
def PackSetsWrongFalsely : Prop := packSetsRow.holds Try.pinned (OpenSpec.ofChange packSetsWrong)

/-- 'tallboylaw12.QuickNumbers': WHATEVER THE INPUT: true; the input reads as it did. -/
def quickNumbersSpec : ChangeSpec := { name := "quickNumbers", fn := fun _ => fun
  | [] => { results := [.lit (.bool true)], args := [] }
  | _ => none }
def quickNumbersRow : OpenClaim := { program := "ytemiajjjhhofaab", sum := "020c2f3d1b271f8d0dc22f8e61aa875bb219de00b9366d41532629b977453bdb", func := "tallboy/tallboylaw12.QuickNumbers", spec := "quickNumbers", inPlace := ["slices.overlaps[byte]"], unfollowed := true, recurses := true, apart := false }
def QuickNumbersSaid : Prop := quickNumbersRow.holds Try.pinned (OpenSpec.ofChange quickNumbersSpec)

/-- ITS FALSE NEIGHBOUR: 'it returns false'. Refute it at one input. -/
def quickNumbersWrong : ChangeSpec := { name := "quickNumbers", fn := fun _ => fun
  | [] => { results := [.lit (.bool false)], args := [] }
  | _ => none }
def QuickNumbersWrongFalsely : Prop := quickNumbersRow.holds Try.pinned (OpenSpec.ofChange quickNumbersWrong)

/-- 'tallboylaw12.QuickPlays': WHATEVER THE INPUT: true; the input reads as it did. -/
def quickPlaysSpec : ChangeSpec := { name := "quickPlays", fn := fun _ => fun
  | [d1, d2] => { results := [.lit (.bool true)], args := [d1, d2] }
  | _ => none }
def quickPlaysRow : OpenClaim := { program := "ytemiajjjhhofaab", sum := "020c2f3d1b271f8d0dc22f8e61aa875bb219de00b9366d41532629b977453bdb", func := "tallboy/tallboylaw12.QuickPlays", spec := "quickPlays", inPlace := ["slices.overlaps[byte]"], unfollowed := true, recurses := true, apart := false }
def QuickPlaysSaid : Prop := quickPlaysRow.holds Try.pinned (OpenSpec.ofChange quickPlaysSpec)

/-- ITS FALSE NEIGHBOUR: 'it returns false'. Refute it at one input. -/
def quickPlaysWrong : ChangeSpec := { name := "quickPlays", fn := fun _ => fun
  | [d1, d2] => { results := [.lit (.bool false)], args := [d1, d2] }
  | _ => none }
def QuickPlaysWrongFalsely : Prop := quickPlaysRow.holds Try.pinned (OpenSpec.ofChange quickPlaysWrong)

/-- 'tallboylaw12.QuickSizes': WHATEVER THE INPUT: true; the input reads as it did. -/
def quickSizesSpec : ChangeSpec := { name := "quickSizes", fn := fun _ => fun
  | [d1, d2, d3] => { results := [.lit (.bool true)], args := [d1, d2, d3] }
  | _ => none }
def quickSizesRow : OpenClaim := { program := "ytemiajjjhhofaab", sum := "020c2f3d1b271f8d0dc22f8e61aa875bb219de00b9366d41532629b977453bdb", func := "tallboy/tallboylaw12.QuickSizes", spec := "quickSizes", inPlace := ["slices.overlaps[byte]"], unfollowed := true, recurses := true, apart := false }
def QuickSizesSaid : Prop := quickSizesRow.holds Try.pinned (OpenSpec.ofChange quickSizesSpec)

/-- ITS FALSE NEIGHBOUR: 'it returns false'. Refute it at one input. -/
def quickSizesWrong : ChangeSpec := { name := "quickSizes", fn := fun _ => fun
  | [d1, d2, d3] => { results := [.lit (.bool false)], args := [d1, d2, d3] }
  | _ => none }
def QuickSizesWrongFalsely : Prop := quickSizesRow.holds Try.pinned (OpenSpec.ofChange quickSizesWrong)

/-- 'tallboylaw12.QuickTurns': WHATEVER THE INPUT: true; the input reads as it did. -/
def quickTurnsSpec : ChangeSpec := { name := "quickTurns", fn := fun _ => fun
  | [d1, d2, d3] => { results := [.lit (.bool true)], args := [d1, d2, d3] }
  | _ => none }
def quickTurnsRow : OpenClaim := { program := "ytemiajjjhhofaab", sum := "020c2f3d1b271f8d0dc22f8e61aa875bb219de00b9366d41532629b977453bdb", func := "tallboy/tallboylaw12.QuickTurns", spec := "quickTurns", inPlace := ["slices.overlaps[byte]"], unfollowed := true, recurses := true, apart := false }
def QuickTurnsSaid : Prop := quickTurnsRow.holds Try.pinned (OpenSpec.ofChange quickTurnsSpec)

/-- ITS FALSE NEIGHBOUR: 'it returns false'. Refute it at one input. -/
def quickTurnsWrong : ChangeSpec := { name := "quickTurns", fn := fun _ => fun
  | [d1, d2, d3] => { results := [.lit (.bool false)], args := [d1, d2, d3] }
  | _ => none }
def QuickTurnsWrongFalsely : Prop := quickTurnsRow.holds Try.pinned (OpenSpec.ofChange quickTurnsWrong)

/-- 'tallboylaw12.QuickTrims': WHATEVER THE INPUT: true; the input reads as it did. -/
def quickTrimsSpec : ChangeSpec := { name := "quickTrims", fn := fun _ => fun
  | [d1, d2, d3, d4] => { results := [.lit (.bool true)], args := [d1, d2, d3, d4] }
  | _ => none }
def quickTrimsRow : OpenClaim := { program := "ytemiajjjhhofaab", sum := "020c2f3d1b271f8d0dc22f8e61aa875bb219de00b9366d41532629b977453bdb", func := "tallboy/tallboylaw12.QuickTrims", spec := "quickTrims", inPlace := ["slices.overlaps[byte]"], unfollowed := true, recurses := true, apart := false }
def QuickTrimsSaid : Prop := quickTrimsRow.holds Try.pinned (OpenSpec.ofChange quickTrimsSpec)

/-- ITS FALSE NEIGHBOUR: 'it returns false'. Refute it at one input. -/
def quickTrimsWrong : ChangeSpec := { name := "quickTrims", fn := fun _ => fun
  | [d1, d2, d3, d4] => { results := [.lit (.bool false)], args := [d1, d2, d3, d4] }
  | _ => none }
def QuickTrimsWrongFalsely : Prop := quickTrimsRow.holds Try.pinned (OpenSpec.ofChange quickTrimsWrong)

/- THE SECOND FORM. 'bulk': how many values and letters a reading holds, each counted each time it is reached (what is shared counts as often as it is met; a slice's spare places count too). A statement '..UptoSaid' is the law's where the arguments, and the package variables that the reading takes, are together of bulk at most 1048576: NARROWER than '..Said'. Prove '..Said' where nothing that the law and all that it calls make is longer than what came in: it says more and counts as full. Else prove '..UptoSaid'. A law counts once. -/
mutual
def uptoBulk {H : Type} : DataW H → Nat
  | .lit (.string bytes) => bytes.length + 1
  | .lit _ => 1
  | .nil => 1
  | .ptr d => uptoBulk d + 1
  | .slice elems spare => uptoBulkAll elems + uptoBulkAll spare + 1
  | .agg parts => uptoBulkAll parts + 1
  | .iface _ d => uptoBulk d + 1
  | .map entries => uptoBulkEntries entries + 1
  | .held _ => 1
def uptoBulkAll {H : Type} : List (DataW H) → Nat
  | [] => 0
  | d :: r => uptoBulk d + uptoBulkAll r
def uptoBulkEntries {H : Type} : List (Lit × DataW H) → Nat
  | [] => 0
  | x :: r => uptoBulkEntry x + uptoBulkEntries r
def uptoBulkEntry {H : Type} : Lit × DataW H → Nat
  | (.string bytes, d) => bytes.length + uptoBulk d + 1
  | (_, d) => uptoBulk d + 1
 end
def uptoSmall : (H : Type) → List (DataW H) → Bool := fun _ ds => decide (uptoBulkAll ds ≤ 1048576)
def OpenSpec.upto (s : _root_.Go.ChangeSpec) : _root_.Go.OpenSpec := { _root_.Go.OpenSpec.ofChange s with cond := some uptoSmall }

/-- 'tallboylaw5.PackSets', WHERE WHAT IT READS IS OF BULK AT MOST 1048576: true; the input reads as it did. -/
def packSetsUptoRow : OpenClaim := { program := "ytemiajjjhhofaab", sum := "020c2f3d1b271f8d0dc22f8e61aa875bb219de00b9366d41532629b977453bdb", func := "tallboy/tallboylaw5.PackSets", spec := "packSets", inPlace := ["slices.overlaps[byte]"], apart := false, narrowed := true }
def PackSetsUptoSaid : Prop := packSetsUptoRow.holds Try.pinned (OpenSpec.upto packSetsSpec)

/-- 'tallboylaw12.QuickNumbers', WHERE WHAT IT READS IS OF BULK AT MOST 1048576: true; the input reads as it did. -/
def quickNumbersUptoRow : OpenClaim := { program := "ytemiajjjhhofaab", sum := "020c2f3d1b271f8d0dc22f8e61aa875bb219de00b9366d41532629b977453bdb", func := "tallboy/tallboylaw12.QuickNumbers", spec := "quickNumbers", inPlace := ["slices.overlaps[byte]"], unfollowed := true, recurses := true, apart := false, narrowed := true }
def QuickNumbersUptoSaid : Prop := quickNumbersUptoRow.holds Try.pinned (OpenSpec.upto quickNumbersSpec)

/-- 'tallboylaw12.QuickPlays', WHERE WHAT IT READS IS OF BULK AT MOST 1048576: true; the input reads as it did. -/
def quickPlaysUptoRow : OpenClaim := { program := "ytemiajjjhhofaab", sum := "020c2f3d1b271f8d0dc22f8e61aa875bb219de00b9366d41532629b977453bdb", func := "tallboy/tallboylaw12.QuickPlays", spec := "quickPlays", inPlace := ["slices.overlaps[byte]"], unfollowed := true, recurses := true, apart := false, narrowed := true }
def QuickPlaysUptoSaid : Prop := quickPlaysUptoRow.holds Try.pinned (OpenSpec.upto quickPlaysSpec)

/-- 'tallboylaw12.QuickSizes', WHERE WHAT IT READS IS OF BULK AT MOST 1048576: true; the input reads as it did. -/
def quickSizesUptoRow : OpenClaim := { program := "ytemiajjjhhofaab", sum := "020c2f3d1b271f8d0dc22f8e61aa875bb219de00b9366d41532629b977453bdb", func := "tallboy/tallboylaw12.QuickSizes", spec := "quickSizes", inPlace := ["slices.overlaps[byte]"], unfollowed := true, recurses := true, apart := false, narrowed := true }
def QuickSizesUptoSaid : Prop := quickSizesUptoRow.holds Try.pinned (OpenSpec.upto quickSizesSpec)

/-- 'tallboylaw12.QuickTurns', WHERE WHAT IT READS IS OF BULK AT MOST 1048576: true; the input reads as it did. -/
def quickTurnsUptoRow : OpenClaim := { program := "ytemiajjjhhofaab", sum := "020c2f3d1b271f8d0dc22f8e61aa875bb219de00b9366d41532629b977453bdb", func := "tallboy/tallboylaw12.QuickTurns", spec := "quickTurns", inPlace := ["slices.overlaps[byte]"], unfollowed := true, recurses := true, apart := false, narrowed := true }
def QuickTurnsUptoSaid : Prop := quickTurnsUptoRow.holds Try.pinned (OpenSpec.upto quickTurnsSpec)

/-- 'tallboylaw12.QuickTrims', WHERE WHAT IT READS IS OF BULK AT MOST 1048576: true; the input reads as it did. -/
def quickTrimsUptoRow : OpenClaim := { program := "ytemiajjjhhofaab", sum := "020c2f3d1b271f8d0dc22f8e61aa875bb219de00b9366d41532629b977453bdb", func := "tallboy/tallboylaw12.QuickTrims", spec := "quickTrims", inPlace := ["slices.overlaps[byte]"], unfollowed := true, recurses := true, apart := false, narrowed := true }
def QuickTrimsUptoSaid : Prop := quickTrimsUptoRow.holds Try.pinned (OpenSpec.upto quickTrimsSpec)

end Rows
end Go.Proofs.Ytemiajjjhhofaab
