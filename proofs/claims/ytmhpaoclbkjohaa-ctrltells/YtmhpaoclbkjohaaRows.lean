/-
  No cell of these rows narrows 'for every input' (looked for: loops, veiled, ifaces, maps, wideKeys, modest, calm, conditions, laid).
  DERIVED. THE GIVEN ROWS OF THIS SEAT. 5 by the template 'for every input the law returns true; each argument reads behind the call as it read before'; 0 by the template 'total and deterministic' (their statements: YtmhpaoclbkjohaaTotals.lean).
  GIVEN WITH THE SEED: the statements are not yours to turn. If you find one false, say at which input.
  Laid BY PROGRAM, IN A SANDBOX (cutbox-rows.mjs): the forced cells as the released guide's own fill.sh prints them over the translation e330190fd41c3b6f… (all of the seat's roots in one cut). By AI agents, Wed Nov 11 2026. No macro, syntax, notation, axiom, sorry.
-/
import Derived.Test.YtmhpaoclbkjohaaChecked
import GoSem.Claim
import GoSem.ClaimJoined
import GoSem.ClaimMapViews
import Derived.JoinedTies
import Derived.KernelRfl
namespace Go.Proofs.Ytmhpaoclbkjohaa
/- THE CELL 'sum', in the pinned program and in every row, IS THE sha256 OF THE DUMP (.gsa) THAT YtmhpaoclbkjohaaProg.lean LOADS. Nothing in Lean hashes anything: it is a label: what it is worth is what the hold of that sum in a sandbox is worth. -/
noncomputable def Try.pinned : Pinned := { name := "ytmhpaoclbkjohaa", sum := "e330190fd41c3b6feb35d98a093af55bb4a9b18aa70e35a009f0193cc5645130", checked := Try.checked }
namespace Rows
def none {H : Type} : Left H := { results := [], args := [] }

/-- 'tallboylaw7.CtrlNumbers': WHATEVER THE INPUT: true; the input reads as it did. -/
def ctrlNumbersSpec : ChangeSpec := { name := "ctrlNumbers", fn := fun _ => fun
  | [] => { results := [.lit (.bool true)], args := [] }
  | _ => none }
def ctrlNumbersRow : OpenClaim := { program := "ytmhpaoclbkjohaa", sum := "e330190fd41c3b6feb35d98a093af55bb4a9b18aa70e35a009f0193cc5645130", func := "tallboy/tallboylaw7.CtrlNumbers", spec := "ctrlNumbers", apart := false }
def CtrlNumbersSaid : Prop := ctrlNumbersRow.holds Try.pinned (OpenSpec.ofChange ctrlNumbersSpec)

/-- ITS FALSE NEIGHBOUR: 'it returns false'. Refute it at one input. -/
def ctrlNumbersWrong : ChangeSpec := { name := "ctrlNumbers", fn := fun _ => fun
  | [] => { results := [.lit (.bool false)], args := [] }
  | _ => none }
def CtrlNumbersWrongFalsely : Prop := ctrlNumbersRow.holds Try.pinned (OpenSpec.ofChange ctrlNumbersWrong)

/-- 'tallboylaw7.CtrlTells': WHATEVER THE INPUT: true; the input reads as it did. -/
def ctrlTellsSpec : ChangeSpec := { name := "ctrlTells", fn := fun _ => fun
  | [d1, d2, d3, d4] => { results := [.lit (.bool true)], args := [d1, d2, d3, d4] }
  | _ => none }
def ctrlTellsRow : OpenClaim := { program := "ytmhpaoclbkjohaa", sum := "e330190fd41c3b6feb35d98a093af55bb4a9b18aa70e35a009f0193cc5645130", func := "tallboy/tallboylaw7.CtrlTells", spec := "ctrlTells", apart := false }
def CtrlTellsSaid : Prop := ctrlTellsRow.holds Try.pinned (OpenSpec.ofChange ctrlTellsSpec)

/-- ITS FALSE NEIGHBOUR: 'it returns false'. Refute it at one input. -/
def ctrlTellsWrong : ChangeSpec := { name := "ctrlTells", fn := fun _ => fun
  | [d1, d2, d3, d4] => { results := [.lit (.bool false)], args := [d1, d2, d3, d4] }
  | _ => none }
def CtrlTellsWrongFalsely : Prop := ctrlTellsRow.holds Try.pinned (OpenSpec.ofChange ctrlTellsWrong)

/-- 'tallboylaw7.CtrlSets': WHATEVER THE INPUT: true; the input reads as it did. -/
def ctrlSetsSpec : ChangeSpec := { name := "ctrlSets", fn := fun _ => fun
  | [d1, d2, d3] => { results := [.lit (.bool true)], args := [d1, d2, d3] }
  | _ => none }
def ctrlSetsRow : OpenClaim := { program := "ytmhpaoclbkjohaa", sum := "e330190fd41c3b6feb35d98a093af55bb4a9b18aa70e35a009f0193cc5645130", func := "tallboy/tallboylaw7.CtrlSets", spec := "ctrlSets", apart := false }
def CtrlSetsSaid : Prop := ctrlSetsRow.holds Try.pinned (OpenSpec.ofChange ctrlSetsSpec)

/-- ITS FALSE NEIGHBOUR: 'it returns false'. Refute it at one input. -/
def ctrlSetsWrong : ChangeSpec := { name := "ctrlSets", fn := fun _ => fun
  | [d1, d2, d3] => { results := [.lit (.bool false)], args := [d1, d2, d3] }
  | _ => none }
def CtrlSetsWrongFalsely : Prop := ctrlSetsRow.holds Try.pinned (OpenSpec.ofChange ctrlSetsWrong)

/-- 'tallboylaw7.CtrlCounts': WHATEVER THE INPUT: true; the input reads as it did. -/
def ctrlCountsSpec : ChangeSpec := { name := "ctrlCounts", fn := fun _ => fun
  | [d] => { results := [.lit (.bool true)], args := [d] }
  | _ => none }
def ctrlCountsRow : OpenClaim := { program := "ytmhpaoclbkjohaa", sum := "e330190fd41c3b6feb35d98a093af55bb4a9b18aa70e35a009f0193cc5645130", func := "tallboy/tallboylaw7.CtrlCounts", spec := "ctrlCounts", apart := false }
def CtrlCountsSaid : Prop := ctrlCountsRow.holds Try.pinned (OpenSpec.ofChange ctrlCountsSpec)

/-- ITS FALSE NEIGHBOUR: 'it returns false'. Refute it at one input. -/
def ctrlCountsWrong : ChangeSpec := { name := "ctrlCounts", fn := fun _ => fun
  | [d] => { results := [.lit (.bool false)], args := [d] }
  | _ => none }
def CtrlCountsWrongFalsely : Prop := ctrlCountsRow.holds Try.pinned (OpenSpec.ofChange ctrlCountsWrong)

/-- 'tallboylaw7.CtrlBuilds': WHATEVER THE INPUT: true; the input reads as it did. -/
def ctrlBuildsSpec : ChangeSpec := { name := "ctrlBuilds", fn := fun _ => fun
  | [d1, d2] => { results := [.lit (.bool true)], args := [d1, d2] }
  | _ => none }
def ctrlBuildsRow : OpenClaim := { program := "ytmhpaoclbkjohaa", sum := "e330190fd41c3b6feb35d98a093af55bb4a9b18aa70e35a009f0193cc5645130", func := "tallboy/tallboylaw7.CtrlBuilds", spec := "ctrlBuilds", apart := false }
def CtrlBuildsSaid : Prop := ctrlBuildsRow.holds Try.pinned (OpenSpec.ofChange ctrlBuildsSpec)

/-- ITS FALSE NEIGHBOUR: 'it returns false'. Refute it at one input. -/
def ctrlBuildsWrong : ChangeSpec := { name := "ctrlBuilds", fn := fun _ => fun
  | [d1, d2] => { results := [.lit (.bool false)], args := [d1, d2] }
  | _ => none }
def CtrlBuildsWrongFalsely : Prop := ctrlBuildsRow.holds Try.pinned (OpenSpec.ofChange ctrlBuildsWrong)

/- THE SECOND FORM. 'bulk': how many values and letters a reading holds, each counted each time it is reached (what is shared counts as often as it is met; a slice's spare places count too). A statement '..UptoSaid' is the law's where the arguments, and the package variables that the reading takes, are together of bulk at most 1048576: NARROWER than '..Said'. Prove '..Said' where nothing that the law and all that it calls make is longer than what came in: it says more and counts as full. Else prove '..UptoSaid'. A law counts once. -/
mutual
def uptoBulk {H : Type} : DataW H → Nat
  | .lit (.string bytes) => bytes.length + 1
  | .lit _ => 1
  | .nil => 1
  | .ptr d => uptoBulk d + 1
  | .slice elems spare => uptoBulkAll elems + uptoBulkAll spare + 1
  | .agg parts => uptoBulkAll parts + 1
  | .iface _ d => uptoBulk d + 1
  | .map entries => uptoBulkEntries entries + 1
  | .held _ => 1
def uptoBulkAll {H : Type} : List (DataW H) → Nat
  | [] => 0
  | d :: r => uptoBulk d + uptoBulkAll r
def uptoBulkEntries {H : Type} : List (Lit × DataW H) → Nat
  | [] => 0
  | x :: r => uptoBulkEntry x + uptoBulkEntries r
def uptoBulkEntry {H : Type} : Lit × DataW H → Nat
  | (.string bytes, d) => bytes.length + uptoBulk d + 1
  | (_, d) => uptoBulk d + 1
 end
def uptoSmall : (H : Type) → List (DataW H) → Bool := fun _ ds => decide (uptoBulkAll ds ≤ 1048576)
def OpenSpec.upto (s : _root_.Go.ChangeSpec) : _root_.Go.OpenSpec := { _root_.Go.OpenSpec.ofChange s with cond := some uptoSmall }

/-- 'tallboylaw7.CtrlNumbers', WHERE WHAT IT READS IS OF BULK AT MOST 1048576: true; the input reads as it did. -/
def ctrlNumbersUptoRow : OpenClaim := { program := "ytmhpaoclbkjohaa", sum := "e330190fd41c3b6feb35d98a093af55bb4a9b18aa70e35a009f0193cc5645130", func := "tallboy/tallboylaw7.CtrlNumbers", spec := "ctrlNumbers", apart := false, narrowed := true }
def CtrlNumbersUptoSaid : Prop := ctrlNumbersUptoRow.holds Try.pinned (OpenSpec.upto ctrlNumbersSpec)

/-- 'tallboylaw7.CtrlTells', WHERE WHAT IT READS IS OF BULK AT MOST 1048576: true; the input reads as it did. -/
def ctrlTellsUptoRow : OpenClaim := { program := "ytmhpaoclbkjohaa", sum := "e330190fd41c3b6feb35d98a093af55bb4a9b18aa70e35a009f0193cc5645130", func := "tallboy/tallboylaw7.CtrlTells", spec := "ctrlTells", apart := false, narrowed := true }
def CtrlTellsUptoSaid : Prop := ctrlTellsUptoRow.holds Try.pinned (OpenSpec.upto ctrlTellsSpec)

/-- 'tallboylaw7.CtrlSets', WHERE WHAT IT READS IS OF BULK AT MOST 1048576: true; the input reads as it did. -/
def ctrlSetsUptoRow : OpenClaim := { program := "ytmhpaoclbkjohaa", sum := "e330190fd41c3b6feb35d98a093af55bb4a9b18aa70e35a009f0193cc5645130", func := "tallboy/tallboylaw7.CtrlSets", spec := "ctrlSets", apart := false, narrowed := true }
def CtrlSetsUptoSaid : Prop := ctrlSetsUptoRow.holds Try.pinned (OpenSpec.upto ctrlSetsSpec)

/-- 'tallboylaw7.CtrlCounts', WHERE WHAT IT READS IS OF BULK AT MOST 1048576: true; the input reads as it did. -/
def ctrlCountsUptoRow : OpenClaim := { program := "ytmhpaoclbkjohaa", sum := "e330190fd41c3b6feb35d98a093af55bb4a9b18aa70e35a009f0193cc5645130", func := "tallboy/tallboylaw7.CtrlCounts", spec := "ctrlCounts", apart := false, narrowed := true }
def CtrlCountsUptoSaid : Prop := ctrlCountsUptoRow.holds Try.pinned (OpenSpec.upto ctrlCountsSpec)

/-- 'tallboylaw7.CtrlBuilds', WHERE WHAT IT READS IS OF BULK AT MOST 1048576: true; the input reads as it did. -/
def ctrlBuildsUptoRow : OpenClaim := { program := "ytmhpaoclbkjohaa", sum := "e330190fd41c3b6feb35d98a093af55bb4a9b18aa70e35a009f0193cc5645130", func := "tallboy/tallboylaw7.CtrlBuilds", spec := "ctrlBuilds", apart := false, narrowed := true }
def CtrlBuildsUptoSaid : Prop := ctrlBuildsUptoRow.holds Try.pinned (OpenSpec.upto ctrlBuildsSpec)

end Rows
end Go.Proofs.Ytmhpaoclbkjohaa
