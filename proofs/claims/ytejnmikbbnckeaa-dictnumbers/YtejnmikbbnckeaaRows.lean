/-
  No cell of these rows narrows 'for every input' (looked for: loops, veiled, ifaces, maps, wideKeys, modest, calm, conditions, laid).
  DERIVED. THE GIVEN ROWS OF THIS SEAT. 6 by the template 'for every input the law returns true; each argument reads behind the call as it read before'; 0 by the template 'total and deterministic' (their statements: YtejnmikbbnckeaaTotals.lean).
  GIVEN WITH THE SEED: the statements are not yours to turn. If you find one false, say at which input.
  Laid BY PROGRAM, IN A SANDBOX (cutbox-rows.mjs): the forced cells as the released guide's own fill.sh prints them over the translation 850f54bc0ea38246… (all of the seat's roots in one cut). By AI agents, Wed Nov 11 2026. No macro, syntax, notation, axiom, sorry.
-/
import Derived.Test.YtejnmikbbnckeaaChecked
import GoSem.Claim
import GoSem.ClaimJoined
import GoSem.ClaimMapViews
import Derived.JoinedTies
import Derived.KernelRfl
namespace Go.Proofs.Ytejnmikbbnckeaa
/- THE CELL 'sum', in the pinned program and in every row, IS THE sha256 OF THE DUMP (.gsa) THAT YtejnmikbbnckeaaProg.lean LOADS. Nothing in Lean hashes anything: it is a label: what it is worth is what the hold of that sum in a sandbox is worth. -/
noncomputable def Try.pinned : Pinned := { name := "ytejnmikbbnckeaa", sum := "850f54bc0ea3824699a33b45f1cea6c23a28204b1e75272f0b032a7e83e52fe7", checked := Try.checked }
namespace Rows
def none {H : Type} : Left H := { results := [], args := [] }

/-- 'tallboylaw10.DictNumbers': WHATEVER THE INPUT: true; the input reads as it did. -/
def dictNumbersSpec : ChangeSpec := { name := "dictNumbers", fn := fun _ => fun
  | [] => { results := [.lit (.bool true)], args := [] }
  | _ => none }
def dictNumbersRow : OpenClaim := { program := "ytejnmikbbnckeaa", sum := "850f54bc0ea3824699a33b45f1cea6c23a28204b1e75272f0b032a7e83e52fe7", func := "tallboy/tallboylaw10.DictNumbers", spec := "dictNumbers", apart := false }
def DictNumbersSaid : Prop := dictNumbersRow.holds Try.pinned (OpenSpec.ofChange dictNumbersSpec)

/-- ITS FALSE NEIGHBOUR: 'it returns false'. Refute it at one input. -/
def dictNumbersWrong : ChangeSpec := { name := "dictNumbers", fn := fun _ => fun
  | [] => { results := [.lit (.bool false)], args := [] }
  | _ => none }
def DictNumbersWrongFalsely : Prop := dictNumbersRow.holds Try.pinned (OpenSpec.ofChange dictNumbersWrong)

/-- 'tallboylaw10.DictPlays': WHATEVER THE INPUT: true; the input reads as it did. -/
def dictPlaysSpec : ChangeSpec := { name := "dictPlays", fn := fun _ => fun
  | [d1, d2] => { results := [.lit (.bool true)], args := [d1, d2] }
  | _ => none }
def dictPlaysRow : OpenClaim := { program := "ytejnmikbbnckeaa", sum := "850f54bc0ea3824699a33b45f1cea6c23a28204b1e75272f0b032a7e83e52fe7", func := "tallboy/tallboylaw10.DictPlays", spec := "dictPlays", apart := false }
def DictPlaysSaid : Prop := dictPlaysRow.holds Try.pinned (OpenSpec.ofChange dictPlaysSpec)

/-- ITS FALSE NEIGHBOUR: 'it returns false'. Refute it at one input. -/
def dictPlaysWrong : ChangeSpec := { name := "dictPlays", fn := fun _ => fun
  | [d1, d2] => { results := [.lit (.bool false)], args := [d1, d2] }
  | _ => none }
def DictPlaysWrongFalsely : Prop := dictPlaysRow.holds Try.pinned (OpenSpec.ofChange dictPlaysWrong)

/-- 'tallboylaw10.DictBuckets': WHATEVER THE INPUT: true; the input reads as it did. -/
def dictBucketsSpec : ChangeSpec := { name := "dictBuckets", fn := fun _ => fun
  | [d1, d2] => { results := [.lit (.bool true)], args := [d1, d2] }
  | _ => none }
def dictBucketsRow : OpenClaim := { program := "ytejnmikbbnckeaa", sum := "850f54bc0ea3824699a33b45f1cea6c23a28204b1e75272f0b032a7e83e52fe7", func := "tallboy/tallboylaw10.DictBuckets", spec := "dictBuckets", apart := false }
def DictBucketsSaid : Prop := dictBucketsRow.holds Try.pinned (OpenSpec.ofChange dictBucketsSpec)

/-- ITS FALSE NEIGHBOUR: 'it returns false'. Refute it at one input. -/
def dictBucketsWrong : ChangeSpec := { name := "dictBuckets", fn := fun _ => fun
  | [d1, d2] => { results := [.lit (.bool false)], args := [d1, d2] }
  | _ => none }
def DictBucketsWrongFalsely : Prop := dictBucketsRow.holds Try.pinned (OpenSpec.ofChange dictBucketsWrong)

/-- 'tallboylaw10.DictEnds': WHATEVER THE INPUT: true; the input reads as it did. -/
def dictEndsSpec : ChangeSpec := { name := "dictEnds", fn := fun _ => fun
  | [d1, d2, d3] => { results := [.lit (.bool true)], args := [d1, d2, d3] }
  | _ => none }
def dictEndsRow : OpenClaim := { program := "ytejnmikbbnckeaa", sum := "850f54bc0ea3824699a33b45f1cea6c23a28204b1e75272f0b032a7e83e52fe7", func := "tallboy/tallboylaw10.DictEnds", spec := "dictEnds", apart := false }
def DictEndsSaid : Prop := dictEndsRow.holds Try.pinned (OpenSpec.ofChange dictEndsSpec)

/-- ITS FALSE NEIGHBOUR: 'it returns false'. Refute it at one input. -/
def dictEndsWrong : ChangeSpec := { name := "dictEnds", fn := fun _ => fun
  | [d1, d2, d3] => { results := [.lit (.bool false)], args := [d1, d2, d3] }
  | _ => none }
def DictEndsWrongFalsely : Prop := dictEndsRow.holds Try.pinned (OpenSpec.ofChange dictEndsWrong)

/-- 'tallboylaw10.DictSeeds': WHATEVER THE INPUT: true; the input reads as it did. -/
def dictSeedsSpec : ChangeSpec := { name := "dictSeeds", fn := fun _ => fun
  | [d1, d2, d3] => { results := [.lit (.bool true)], args := [d1, d2, d3] }
  | _ => none }
def dictSeedsRow : OpenClaim := { program := "ytejnmikbbnckeaa", sum := "850f54bc0ea3824699a33b45f1cea6c23a28204b1e75272f0b032a7e83e52fe7", func := "tallboy/tallboylaw10.DictSeeds", spec := "dictSeeds", apart := false }
def DictSeedsSaid : Prop := dictSeedsRow.holds Try.pinned (OpenSpec.ofChange dictSeedsSpec)

/-- ITS FALSE NEIGHBOUR: 'it returns false'. Refute it at one input. -/
def dictSeedsWrong : ChangeSpec := { name := "dictSeeds", fn := fun _ => fun
  | [d1, d2, d3] => { results := [.lit (.bool false)], args := [d1, d2, d3] }
  | _ => none }
def DictSeedsWrongFalsely : Prop := dictSeedsRow.holds Try.pinned (OpenSpec.ofChange dictSeedsWrong)

/-- 'tallboylaw10.DictDeletes': WHATEVER THE INPUT: true; the input reads as it did. -/
def dictDeletesSpec : ChangeSpec := { name := "dictDeletes", fn := fun _ => fun
  | [d1, d2] => { results := [.lit (.bool true)], args := [d1, d2] }
  | _ => none }
def dictDeletesRow : OpenClaim := { program := "ytejnmikbbnckeaa", sum := "850f54bc0ea3824699a33b45f1cea6c23a28204b1e75272f0b032a7e83e52fe7", func := "tallboy/tallboylaw10.DictDeletes", spec := "dictDeletes", apart := false }
def DictDeletesSaid : Prop := dictDeletesRow.holds Try.pinned (OpenSpec.ofChange dictDeletesSpec)

/-- ITS FALSE NEIGHBOUR: 'it returns false'. Refute it at one input. -/
def dictDeletesWrong : ChangeSpec := { name := "dictDeletes", fn := fun _ => fun
  | [d1, d2] => { results := [.lit (.bool false)], args := [d1, d2] }
  | _ => none }
def DictDeletesWrongFalsely : Prop := dictDeletesRow.holds Try.pinned (OpenSpec.ofChange dictDeletesWrong)

/- THE SECOND FORM. 'bulk': how many values and letters a reading holds, each counted each time it is reached (what is shared counts as often as it is met; a slice's spare places count too). A statement '..UptoSaid' is the law's where the arguments, and the package variables that the reading takes, are together of bulk at most 1048576: NARROWER than '..Said'. Prove '..Said' where nothing that the law and all that it calls make is longer than what came in: it says more and counts as full. Else prove '..UptoSaid'. A law counts once. -/
mutual
def uptoBulk {H : Type} : DataW H → Nat
  | .lit (.string bytes) => bytes.length + 1
  | .lit _ => 1
  | .nil => 1
  | .ptr d => uptoBulk d + 1
  | .slice elems spare => uptoBulkAll elems + uptoBulkAll spare + 1
  | .agg parts => uptoBulkAll parts + 1
  | .iface _ d => uptoBulk d + 1
  | .map entries => uptoBulkEntries entries + 1
  | .held _ => 1
def uptoBulkAll {H : Type} : List (DataW H) → Nat
  | [] => 0
  | d :: r => uptoBulk d + uptoBulkAll r
def uptoBulkEntries {H : Type} : List (Lit × DataW H) → Nat
  | [] => 0
  | x :: r => uptoBulkEntry x + uptoBulkEntries r
def uptoBulkEntry {H : Type} : Lit × DataW H → Nat
  | (.string bytes, d) => bytes.length + uptoBulk d + 1
  | (_, d) => uptoBulk d + 1
 end
def uptoSmall : (H : Type) → List (DataW H) → Bool := fun _ ds => decide (uptoBulkAll ds ≤ 1048576)
def OpenSpec.upto (s : _root_.Go.ChangeSpec) : _root_.Go.OpenSpec := { _root_.Go.OpenSpec.ofChange s with cond := some uptoSmall }

/-- 'tallboylaw10.DictNumbers', WHERE WHAT IT READS IS OF BULK AT MOST 1048576: true; the input reads as it did. -/
def dictNumbersUptoRow : OpenClaim := { program := "ytejnmikbbnckeaa", sum := "850f54bc0ea3824699a33b45f1cea6c23a28204b1e75272f0b032a7e83e52fe7", func := "tallboy/tallboylaw10.DictNumbers", spec := "dictNumbers", apart := false, narrowed := true }
def DictNumbersUptoSaid : Prop := dictNumbersUptoRow.holds Try.pinned (OpenSpec.upto dictNumbersSpec)

/-- 'tallboylaw10.DictPlays', WHERE WHAT IT READS IS OF BULK AT MOST 1048576: true; the input reads as it did. -/
def dictPlaysUptoRow : OpenClaim := { program := "ytejnmikbbnckeaa", sum := "850f54bc0ea3824699a33b45f1cea6c23a28204b1e75272f0b032a7e83e52fe7", func := "tallboy/tallboylaw10.DictPlays", spec := "dictPlays", apart := false, narrowed := true }
def DictPlaysUptoSaid : Prop := dictPlaysUptoRow.holds Try.pinned (OpenSpec.upto dictPlaysSpec)

/-- 'tallboylaw10.DictBuckets', WHERE WHAT IT READS IS OF BULK AT MOST 1048576: true; the input reads as it did. -/
def dictBucketsUptoRow : OpenClaim := { program := "ytejnmikbbnckeaa", sum := "850f54bc0ea3824699a33b45f1cea6c23a28204b1e75272f0b032a7e83e52fe7", func := "tallboy/tallboylaw10.DictBuckets", spec := "dictBuckets", apart := false, narrowed := true }
def DictBucketsUptoSaid : Prop := dictBucketsUptoRow.holds Try.pinned (OpenSpec.upto dictBucketsSpec)

/-- 'tallboylaw10.DictEnds', WHERE WHAT IT READS IS OF BULK AT MOST 1048576: true; the input reads as it did. -/
def dictEndsUptoRow : OpenClaim := { program := "ytejnmikbbnckeaa", sum := "850f54bc0ea3824699a33b45f1cea6c23a28204b1e75272f0b032a7e83e52fe7", func := "tallboy/tallboylaw10.DictEnds", spec := "dictEnds", apart := false, narrowed := true }
def DictEndsUptoSaid : Prop := dictEndsUptoRow.holds Try.pinned (OpenSpec.upto dictEndsSpec)

/-- 'tallboylaw10.DictSeeds', WHERE WHAT IT READS IS OF BULK AT MOST 1048576: true; the input reads as it did. -/
def dictSeedsUptoRow : OpenClaim := { program := "ytejnmikbbnckeaa", sum := "850f54bc0ea3824699a33b45f1cea6c23a28204b1e75272f0b032a7e83e52fe7", func := "tallboy/tallboylaw10.DictSeeds", spec := "dictSeeds", apart := false, narrowed := true }
def DictSeedsUptoSaid : Prop := dictSeedsUptoRow.holds Try.pinned (OpenSpec.upto dictSeedsSpec)

/-- 'tallboylaw10.DictDeletes', WHERE WHAT IT READS IS OF BULK AT MOST 1048576: true; the input reads as it did. -/
def dictDeletesUptoRow : OpenClaim := { program := "ytejnmikbbnckeaa", sum := "850f54bc0ea3824699a33b45f1cea6c23a28204b1e75272f0b032a7e83e52fe7", func := "tallboy/tallboylaw10.DictDeletes", spec := "dictDeletes", apart := false, narrowed := true }
def DictDeletesUptoSaid : Prop := dictDeletesUptoRow.holds Try.pinned (OpenSpec.upto dictDeletesSpec)

end Rows
end Go.Proofs.Ytejnmikbbnckeaa
