/-
  No cell of these rows narrows 'for every input' (looked for: loops, veiled, ifaces, maps, wideKeys, modest, calm, conditions, laid).
  DERIVED. THE GIVEN ROWS OF THIS SEAT. 6 by the template 'for every input the law returns true; each argument reads behind the call as it read before'; 0 by the template 'total and deterministic' (their statements: YtemiajjjhhofaaaTotals.lean).
  GIVEN WITH THE SEED: the statements are not yours to turn. If you find one false, say at which input.
  Laid BY PROGRAM, IN A SANDBOX (cutbox-rows.mjs): the forced cells as the released guide's own fill.sh prints them over the translation 456023f0a8eb987f… (all of the seat's roots in one cut). By AI agents, Wed Nov 11 2026. No macro, syntax, notation, axiom, sorry.
-/
import Derived.Test.YtemiajjjhhofaaaChecked
import GoSem.Claim
import GoSem.ClaimJoined
import GoSem.ClaimMapViews
import Derived.JoinedTies
import Derived.KernelRfl
namespace Go.Proofs.Ytemiajjjhhofaaa
/- THE CELL 'sum', in the pinned program and in every row, IS THE sha256 OF THE DUMP (.gsa) THAT YtemiajjjhhofaaaProg.lean LOADS. Nothing in Lean hashes anything: it is a label: what it is worth is what the hold of that sum in a sandbox is worth. -/
noncomputable def Try.pinned : Pinned := { name := "ytemiajjjhhofaaa", sum := "456023f0a8eb987f30c63841212e3c4c726ba5e620285429f1d3930a99d9400a", checked := Try.checked }
namespace Rows
def none {H : Type} : Left H := { results := [], args := [] }

/-- 'tallboylaw5.PackNumbers': WHATEVER THE INPUT: true; the input reads as it did. -/
def packNumbersSpec : ChangeSpec := { name := "packNumbers", fn := fun _ => fun
  | [] => { results := [.lit (.bool true)], args := [] }
  | _ => none }
def packNumbersRow : OpenClaim := { program := "ytemiajjjhhofaaa", sum := "456023f0a8eb987f30c63841212e3c4c726ba5e620285429f1d3930a99d9400a", func := "tallboy/tallboylaw5.PackNumbers", spec := "packNumbers", inPlace := ["slices.overlaps[byte]"], apart := false }
def PackNumbersSaid : Prop := packNumbersRow.holds Try.pinned (OpenSpec.ofChange packNumbersSpec)

/-- ITS FALSE NEIGHBOUR: 'it returns false'. Refute it at one input. -/
def packNumbersWrong : ChangeSpec := { name := "packNumbers", fn := fun _ => fun
  | [] => { results := [.lit (.bool false)], args := [] }
  | _ => none }
def PackNumbersWrongFalsely : Prop := packNumbersRow.holds Try.pinned (OpenSpec.ofChange packNumbersWrong)

/-- 'tallboylaw5.PackPlays': WHATEVER THE INPUT: true; the input reads as it did. -/
def packPlaysSpec : ChangeSpec := { name := "packPlays", fn := fun _ => fun
  | [d] => { results := [.lit (.bool true)], args := [d] }
  | _ => none }
def packPlaysRow : OpenClaim := { program := "ytemiajjjhhofaaa", sum := "456023f0a8eb987f30c63841212e3c4c726ba5e620285429f1d3930a99d9400a", func := "tallboy/tallboylaw5.PackPlays", spec := "packPlays", inPlace := ["slices.overlaps[byte]"], apart := false }
def PackPlaysSaid : Prop := packPlaysRow.holds Try.pinned (OpenSpec.ofChange packPlaysSpec)

/-- ITS FALSE NEIGHBOUR: 'it returns false'. Refute it at one input. -/
def packPlaysWrong : ChangeSpec := { name := "packPlays", fn := fun _ => fun
  | [d] => { results := [.lit (.bool false)], args := [d] }
  | _ => none }
def PackPlaysWrongFalsely : Prop := packPlaysRow.holds Try.pinned (OpenSpec.ofChange packPlaysWrong)

/-- 'tallboylaw5.PackFrom': WHATEVER THE INPUT: true; the input reads as it did. -/
def packFromSpec : ChangeSpec := { name := "packFrom", fn := fun _ => fun
  | [d1, d2, d3, d4] => { results := [.lit (.bool true)], args := [d1, d2, d3, d4] }
  | _ => none }
def packFromRow : OpenClaim := { program := "ytemiajjjhhofaaa", sum := "456023f0a8eb987f30c63841212e3c4c726ba5e620285429f1d3930a99d9400a", func := "tallboy/tallboylaw5.PackFrom", spec := "packFrom", inPlace := ["slices.overlaps[byte]"], apart := false }
def PackFromSaid : Prop := packFromRow.holds Try.pinned (OpenSpec.ofChange packFromSpec)

/-- ITS FALSE NEIGHBOUR: 'it returns false'. Refute it at one input. -/
def packFromWrong : ChangeSpec := { name := "packFrom", fn := fun _ => fun
  | [d1, d2, d3, d4] => { results := [.lit (.bool false)], args := [d1, d2, d3, d4] }
  | _ => none }
def PackFromWrongFalsely : Prop := packFromRow.holds Try.pinned (OpenSpec.ofChange packFromWrong)

/-- 'tallboylaw5.PackCopies': WHATEVER THE INPUT: true; the input reads as it did. -/
def packCopiesSpec : ChangeSpec := { name := "packCopies", fn := fun _ => fun
  | [d1, d2] => { results := [.lit (.bool true)], args := [d1, d2] }
  | _ => none }
def packCopiesRow : OpenClaim := { program := "ytemiajjjhhofaaa", sum := "456023f0a8eb987f30c63841212e3c4c726ba5e620285429f1d3930a99d9400a", func := "tallboy/tallboylaw5.PackCopies", spec := "packCopies", inPlace := ["slices.overlaps[byte]"], apart := false }
def PackCopiesSaid : Prop := packCopiesRow.holds Try.pinned (OpenSpec.ofChange packCopiesSpec)

/-- ITS FALSE NEIGHBOUR: 'it returns false'. Refute it at one input. -/
def packCopiesWrong : ChangeSpec := { name := "packCopies", fn := fun _ => fun
  | [d1, d2] => { results := [.lit (.bool false)], args := [d1, d2] }
  | _ => none }
def PackCopiesWrongFalsely : Prop := packCopiesRow.holds Try.pinned (OpenSpec.ofChange packCopiesWrong)

/-- 'tallboylaw5.PackEnds': WHATEVER THE INPUT: true; the input reads as it did. -/
def packEndsSpec : ChangeSpec := { name := "packEnds", fn := fun _ => fun
  | [d1, d2, d3] => { results := [.lit (.bool true)], args := [d1, d2, d3] }
  | _ => none }
def packEndsRow : OpenClaim := { program := "ytemiajjjhhofaaa", sum := "456023f0a8eb987f30c63841212e3c4c726ba5e620285429f1d3930a99d9400a", func := "tallboy/tallboylaw5.PackEnds", spec := "packEnds", inPlace := ["slices.overlaps[byte]"], apart := false }
def PackEndsSaid : Prop := packEndsRow.holds Try.pinned (OpenSpec.ofChange packEndsSpec)

/-- ITS FALSE NEIGHBOUR: 'it returns false'. Refute it at one input. -/
def packEndsWrong : ChangeSpec := { name := "packEnds", fn := fun _ => fun
  | [d1, d2, d3] => { results := [.lit (.bool false)], args := [d1, d2, d3] }
  | _ => none }
def PackEndsWrongFalsely : Prop := packEndsRow.holds Try.pinned (OpenSpec.ofChange packEndsWrong)

/-- 'tallboylaw5.PackFinds': WHATEVER THE INPUT: true; the input reads as it did. -/
def packFindsSpec : ChangeSpec := { name := "packFinds", fn := fun _ => fun
  | [d1, d2, d3, d4] => { results := [.lit (.bool true)], args := [d1, d2, d3, d4] }
  | _ => none }
def packFindsRow : OpenClaim := { program := "ytemiajjjhhofaaa", sum := "456023f0a8eb987f30c63841212e3c4c726ba5e620285429f1d3930a99d9400a", func := "tallboy/tallboylaw5.PackFinds", spec := "packFinds", inPlace := ["slices.overlaps[byte]"], apart := false }
def PackFindsSaid : Prop := packFindsRow.holds Try.pinned (OpenSpec.ofChange packFindsSpec)

/-- ITS FALSE NEIGHBOUR: 'it returns false'. Refute it at one input. -/
def packFindsWrong : ChangeSpec := { name := "packFinds", fn := fun _ => fun
  | [d1, d2, d3, d4] => { results := [.lit (.bool false)], args := [d1, d2, d3, d4] }
  | _ => none }
def PackFindsWrongFalsely : Prop := packFindsRow.holds Try.pinned (OpenSpec.ofChange packFindsWrong)

/- THE SECOND FORM. 'bulk': how many values and letters a reading holds, each counted each time it is reached (what is shared counts as often as it is met; a slice's spare places count too). A statement '..UptoSaid' is the law's where the arguments, and the package variables that the reading takes, are together of bulk at most 1048576: NARROWER than '..Said'. Prove '..Said' where nothing that the law and all that it calls make is longer than what came in: it says more and counts as full. Else prove '..UptoSaid'. A law counts once. -/
mutual
def uptoBulk {H : Type} : DataW H → Nat
  | .lit (.string bytes) => bytes.length + 1
  | .lit _ => 1
  | .nil => 1
  | .ptr d => uptoBulk d + 1
  | .slice elems spare => uptoBulkAll elems + uptoBulkAll spare + 1
  | .agg parts => uptoBulkAll parts + 1
  | .iface _ d => uptoBulk d + 1
  | .map entries => uptoBulkEntries entries + 1
  | .held _ => 1
def uptoBulkAll {H : Type} : List (DataW H) → Nat
  | [] => 0
  | d :: r => uptoBulk d + uptoBulkAll r
def uptoBulkEntries {H : Type} : List (Lit × DataW H) → Nat
  | [] => 0
  | x :: r => uptoBulkEntry x + uptoBulkEntries r
def uptoBulkEntry {H : Type} : Lit × DataW H → Nat
  | (.string bytes, d) => bytes.length + uptoBulk d + 1
  | (_, d) => uptoBulk d + 1
 end
def uptoSmall : (H : Type) → List (DataW H) → Bool := fun _ ds => decide (uptoBulkAll ds ≤ 1048576)
def OpenSpec.upto (s : _root_.Go.ChangeSpec) : _root_.Go.OpenSpec := { _root_.Go.OpenSpec.ofChange s with cond := some uptoSmall }

/-- 'tallboylaw5.PackNumbers', WHERE WHAT IT READS IS OF BULK AT MOST 1048576: true; the input reads as it did. -/
def packNumbersUptoRow : OpenClaim := { program := "ytemiajjjhhofaaa", sum := "456023f0a8eb987f30c63841212e3c4c726ba5e620285429f1d3930a99d9400a", func := "tallboy/tallboylaw5.PackNumbers", spec := "packNumbers", inPlace := ["slices.overlaps[byte]"], apart := false, narrowed := true }
def PackNumbersUptoSaid : Prop := packNumbersUptoRow.holds Try.pinned (OpenSpec.upto packNumbersSpec)

/-- 'tallboylaw5.PackPlays', WHERE WHAT IT READS IS OF BULK AT MOST 1048576: true; the input reads as it did. -/
def packPlaysUptoRow : OpenClaim := { program := "ytemiajjjhhofaaa", sum := "456023f0a8eb987f30c63841212e3c4c726ba5e620285429f1d3930a99d9400a", func := "tallboy/tallboylaw5.PackPlays", spec := "packPlays", inPlace := ["slices.overlaps[byte]"], apart := false, narrowed := true }
def PackPlaysUptoSaid : Prop := packPlaysUptoRow.holds Try.pinned (OpenSpec.upto packPlaysSpec)

/-- 'tallboylaw5.PackFrom', WHERE WHAT IT READS IS OF BULK AT MOST 1048576: true; the input reads as it did. -/
def packFromUptoRow : OpenClaim := { program := "ytemiajjjhhofaaa", sum := "456023f0a8eb987f30c63841212e3c4c726ba5e620285429f1d3930a99d9400a", func := "tallboy/tallboylaw5.PackFrom", spec := "packFrom", inPlace := ["slices.overlaps[byte]"], apart := false, narrowed := true }
def PackFromUptoSaid : Prop := packFromUptoRow.holds Try.pinned (OpenSpec.upto packFromSpec)

/-- 'tallboylaw5.PackCopies', WHERE WHAT IT READS IS OF BULK AT MOST 1048576: true; the input reads as it did. -/
def packCopiesUptoRow : OpenClaim := { program := "ytemiajjjhhofaaa", sum := "456023f0a8eb987f30c63841212e3c4c726ba5e620285429f1d3930a99d9400a", func := "tallboy/tallboylaw5.PackCopies", spec := "packCopies", inPlace := ["slices.overlaps[byte]"], apart := false, narrowed := true }
def PackCopiesUptoSaid : Prop := packCopiesUptoRow.holds Try.pinned (OpenSpec.upto packCopiesSpec)

/-- 'tallboylaw5.PackEnds', WHERE WHAT IT READS IS OF BULK AT MOST 1048576: true; the input reads as it did. -/
def packEndsUptoRow : OpenClaim := { program := "ytemiajjjhhofaaa", sum := "456023f0a8eb987f30c63841212e3c4c726ba5e620285429f1d3930a99d9400a", func := "tallboy/tallboylaw5.PackEnds", spec := "packEnds", inPlace := ["slices.overlaps[byte]"], apart := false, narrowed := true }
def PackEndsUptoSaid : Prop := packEndsUptoRow.holds Try.pinned (OpenSpec.upto packEndsSpec)

/-- 'tallboylaw5.PackFinds', WHERE WHAT IT READS IS OF BULK AT MOST 1048576: true; the input reads as it did. -/
def packFindsUptoRow : OpenClaim := { program := "ytemiajjjhhofaaa", sum := "456023f0a8eb987f30c63841212e3c4c726ba5e620285429f1d3930a99d9400a", func := "tallboy/tallboylaw5.PackFinds", spec := "packFinds", inPlace := ["slices.overlaps[byte]"], apart := false, narrowed := true }
def PackFindsUptoSaid : Prop := packFindsUptoRow.holds Try.pinned (OpenSpec.upto packFindsSpec)

end Rows
end Go.Proofs.Ytemiajjjhhofaaa
