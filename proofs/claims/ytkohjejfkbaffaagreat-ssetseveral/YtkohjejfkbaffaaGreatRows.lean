/-
  No cell of these rows narrows 'for every input' (looked for: loops, veiled, ifaces, maps, wideKeys, modest, calm, conditions, laid).
  DERIVED. THE GIVEN ROWS OF THIS SEAT. 6 by the template 'for every input the law returns true; each argument reads behind the call as it read before'; 0 by the template 'total and deterministic' (their statements: YtkohjejfkbaffaaGreatTotals.lean).
  GIVEN WITH THE SEED: the statements are not yours to turn. If you find one false, say at which input.
  Laid BY PROGRAM, IN A SANDBOX (cutbox-rows.mjs): the forced cells as the released guide's own fill.sh prints them over the translation 7aab0f6617b9d52a… (all of the seat's roots in one cut). By AI agents, Wed Nov 11 2026. No macro, syntax, notation, axiom, sorry.
-/
import Derived.Test.YtkohjejfkbaffaaGreatChecked
import GoSem.Claim
import GoSem.ClaimJoined
import GoSem.ClaimMapViews
import Derived.JoinedTies
import Derived.KernelRfl
namespace Go.Proofs.YtkohjejfkbaffaaGreat
/- THE CELL 'sum', in the pinned program and in every row, IS THE sha256 OF THE DUMP (.gsa) THAT YtkohjejfkbaffaaGreatProg.lean LOADS. Nothing in Lean hashes anything: it is a label: what it is worth is what the hold of that sum in a sandbox is worth. -/
noncomputable def Tryz.pinned : Pinned := { name := "ytkohjejfkbaffaagreat", sum := "7aab0f6617b9d52aba36768ed1874687e22afe3f2d920270b6b3f63b7546385f", checked := Tryz.checked }
namespace Rows
def none {H : Type} : Left H := { results := [], args := [] }

/-- 'tallboylaw14.SsetNumbers': WHATEVER THE INPUT: true; the input reads as it did. -/
def ssetNumbersSpec : ChangeSpec := { name := "ssetNumbers", fn := fun _ => fun
  | [] => { results := [.lit (.bool true)], args := [] }
  | _ => none }
def ssetNumbersRow : OpenClaim := { program := "ytkohjejfkbaffaagreat", sum := "7aab0f6617b9d52aba36768ed1874687e22afe3f2d920270b6b3f63b7546385f", func := "tallboy/tallboylaw14.SsetNumbers", spec := "ssetNumbers", inPlace := ["slices.overlaps[byte]"], apart := false }
def SsetNumbersSaid : Prop := ssetNumbersRow.holds Tryz.pinned (OpenSpec.ofChange ssetNumbersSpec)

/-- ITS FALSE NEIGHBOUR: 'it returns false'. Refute it at one input. -/
def ssetNumbersWrong : ChangeSpec := { name := "ssetNumbers", fn := fun _ => fun
  | [] => { results := [.lit (.bool false)], args := [] }
  | _ => none }
def SsetNumbersWrongFalsely : Prop := ssetNumbersRow.holds Tryz.pinned (OpenSpec.ofChange ssetNumbersWrong)

/-- 'tallboylaw14.SsetPlays': WHATEVER THE INPUT: true; the input reads as it did. -/
def ssetPlaysSpec : ChangeSpec := { name := "ssetPlays", fn := fun _ => fun
  | [d1, d2, d3, d4] => { results := [.lit (.bool true)], args := [d1, d2, d3, d4] }
  | _ => none }
def ssetPlaysRow : OpenClaim := { program := "ytkohjejfkbaffaagreat", sum := "7aab0f6617b9d52aba36768ed1874687e22afe3f2d920270b6b3f63b7546385f", func := "tallboy/tallboylaw14.SsetPlays", spec := "ssetPlays", inPlace := ["slices.overlaps[byte]"], apart := false }
def SsetPlaysSaid : Prop := ssetPlaysRow.holds Tryz.pinned (OpenSpec.ofChange ssetPlaysSpec)

/-- ITS FALSE NEIGHBOUR: 'it returns false'. Refute it at one input. -/
def ssetPlaysWrong : ChangeSpec := { name := "ssetPlays", fn := fun _ => fun
  | [d1, d2, d3, d4] => { results := [.lit (.bool false)], args := [d1, d2, d3, d4] }
  | _ => none }
def SsetPlaysWrongFalsely : Prop := ssetPlaysRow.holds Tryz.pinned (OpenSpec.ofChange ssetPlaysWrong)

/-- 'tallboylaw14.SsetSeveral': WHATEVER THE INPUT: true; the input reads as it did. -/
def ssetSeveralSpec : ChangeSpec := { name := "ssetSeveral", fn := fun _ => fun
  | [d1, d2, d3, d4] => { results := [.lit (.bool true)], args := [d1, d2, d3, d4] }
  | _ => none }
def ssetSeveralRow : OpenClaim := { program := "ytkohjejfkbaffaagreat", sum := "7aab0f6617b9d52aba36768ed1874687e22afe3f2d920270b6b3f63b7546385f", func := "tallboy/tallboylaw14.SsetSeveral", spec := "ssetSeveral", inPlace := ["slices.overlaps[byte]"], apart := false }
def SsetSeveralSaid : Prop := ssetSeveralRow.holds Tryz.pinned (OpenSpec.ofChange ssetSeveralSpec)

/-- ITS FALSE NEIGHBOUR: 'it returns false'. Refute it at one input. -/
def ssetSeveralWrong : ChangeSpec := { name := "ssetSeveral", fn := fun _ => fun
  | [d1, d2, d3, d4] => { results := [.lit (.bool false)], args := [d1, d2, d3, d4] }
  | _ => none }
def SsetSeveralWrongFalsely : Prop := ssetSeveralRow.holds Tryz.pinned (OpenSpec.ofChange ssetSeveralWrong)

/-- 'tallboylaw14.SsetLaws': WHATEVER THE INPUT: true; the input reads as it did. -/
def ssetLawsSpec : ChangeSpec := { name := "ssetLaws", fn := fun _ => fun
  | [d1, d2, d3] => { results := [.lit (.bool true)], args := [d1, d2, d3] }
  | _ => none }
def ssetLawsRow : OpenClaim := { program := "ytkohjejfkbaffaagreat", sum := "7aab0f6617b9d52aba36768ed1874687e22afe3f2d920270b6b3f63b7546385f", func := "tallboy/tallboylaw14.SsetLaws", spec := "ssetLaws", inPlace := ["slices.overlaps[byte]"], apart := false }
def SsetLawsSaid : Prop := ssetLawsRow.holds Tryz.pinned (OpenSpec.ofChange ssetLawsSpec)

/-- ITS FALSE NEIGHBOUR: 'it returns false'. Refute it at one input. -/
def ssetLawsWrong : ChangeSpec := { name := "ssetLaws", fn := fun _ => fun
  | [d1, d2, d3] => { results := [.lit (.bool false)], args := [d1, d2, d3] }
  | _ => none }
def SsetLawsWrongFalsely : Prop := ssetLawsRow.holds Tryz.pinned (OpenSpec.ofChange ssetLawsWrong)

/-- 'tallboylaw14.SsetPicks': WHATEVER THE INPUT: true; the input reads as it did. -/
def ssetPicksSpec : ChangeSpec := { name := "ssetPicks", fn := fun _ => fun
  | [d1, d2, d3, d4] => { results := [.lit (.bool true)], args := [d1, d2, d3, d4] }
  | _ => none }
def ssetPicksRow : OpenClaim := { program := "ytkohjejfkbaffaagreat", sum := "7aab0f6617b9d52aba36768ed1874687e22afe3f2d920270b6b3f63b7546385f", func := "tallboy/tallboylaw14.SsetPicks", spec := "ssetPicks", inPlace := ["slices.overlaps[byte]"], apart := false }
def SsetPicksSaid : Prop := ssetPicksRow.holds Tryz.pinned (OpenSpec.ofChange ssetPicksSpec)

/-- ITS FALSE NEIGHBOUR: 'it returns false'. Refute it at one input. -/
def ssetPicksWrong : ChangeSpec := { name := "ssetPicks", fn := fun _ => fun
  | [d1, d2, d3, d4] => { results := [.lit (.bool false)], args := [d1, d2, d3, d4] }
  | _ => none }
def SsetPicksWrongFalsely : Prop := ssetPicksRow.holds Tryz.pinned (OpenSpec.ofChange ssetPicksWrong)

/-- 'tallboylaw14.SsetCopies': WHATEVER THE INPUT: true; the input reads as it did. -/
def ssetCopiesSpec : ChangeSpec := { name := "ssetCopies", fn := fun _ => fun
  | [d1, d2, d3] => { results := [.lit (.bool true)], args := [d1, d2, d3] }
  | _ => none }
def ssetCopiesRow : OpenClaim := { program := "ytkohjejfkbaffaagreat", sum := "7aab0f6617b9d52aba36768ed1874687e22afe3f2d920270b6b3f63b7546385f", func := "tallboy/tallboylaw14.SsetCopies", spec := "ssetCopies", inPlace := ["slices.overlaps[byte]"], apart := false }
def SsetCopiesSaid : Prop := ssetCopiesRow.holds Tryz.pinned (OpenSpec.ofChange ssetCopiesSpec)

/-- ITS FALSE NEIGHBOUR: 'it returns false'. Refute it at one input. -/
def ssetCopiesWrong : ChangeSpec := { name := "ssetCopies", fn := fun _ => fun
  | [d1, d2, d3] => { results := [.lit (.bool false)], args := [d1, d2, d3] }
  | _ => none }
def SsetCopiesWrongFalsely : Prop := ssetCopiesRow.holds Tryz.pinned (OpenSpec.ofChange ssetCopiesWrong)

/- THE SECOND FORM. 'bulk': how many values and letters a reading holds, each counted each time it is reached (what is shared counts as often as it is met; a slice's spare places count too). A statement '..UptoSaid' is the law's where the arguments, and the package variables that the reading takes, are together of bulk at most 1048576: NARROWER than '..Said'. Prove '..Said' where nothing that the law and all that it calls make is longer than what came in: it says more and counts as full. Else prove '..UptoSaid'. A law counts once. -/
mutual
def uptoBulk {H : Type} : DataW H → Nat
  | .lit (.string bytes) => bytes.length + 1
  | .lit _ => 1
  | .nil => 1
  | .ptr d => uptoBulk d + 1
  | .slice elems spare => uptoBulkAll elems + uptoBulkAll spare + 1
  | .agg parts => uptoBulkAll parts + 1
  | .iface _ d => uptoBulk d + 1
  | .map entries => uptoBulkEntries entries + 1
  | .held _ => 1
def uptoBulkAll {H : Type} : List (DataW H) → Nat
  | [] => 0
  | d :: r => uptoBulk d + uptoBulkAll r
def uptoBulkEntries {H : Type} : List (Lit × DataW H) → Nat
  | [] => 0
  | x :: r => uptoBulkEntry x + uptoBulkEntries r
def uptoBulkEntry {H : Type} : Lit × DataW H → Nat
  | (.string bytes, d) => bytes.length + uptoBulk d + 1
  | (_, d) => uptoBulk d + 1
 end
def uptoSmall : (H : Type) → List (DataW H) → Bool := fun _ ds => decide (uptoBulkAll ds ≤ 1048576)
def OpenSpec.upto (s : _root_.Go.ChangeSpec) : _root_.Go.OpenSpec := { _root_.Go.OpenSpec.ofChange s with cond := some uptoSmall }

/-- 'tallboylaw14.SsetNumbers', WHERE WHAT IT READS IS OF BULK AT MOST 1048576: true; the input reads as it did. -/
def ssetNumbersUptoRow : OpenClaim := { program := "ytkohjejfkbaffaagreat", sum := "7aab0f6617b9d52aba36768ed1874687e22afe3f2d920270b6b3f63b7546385f", func := "tallboy/tallboylaw14.SsetNumbers", spec := "ssetNumbers", inPlace := ["slices.overlaps[byte]"], apart := false, narrowed := true }
def SsetNumbersUptoSaid : Prop := ssetNumbersUptoRow.holds Tryz.pinned (OpenSpec.upto ssetNumbersSpec)

/-- 'tallboylaw14.SsetPlays', WHERE WHAT IT READS IS OF BULK AT MOST 1048576: true; the input reads as it did. -/
def ssetPlaysUptoRow : OpenClaim := { program := "ytkohjejfkbaffaagreat", sum := "7aab0f6617b9d52aba36768ed1874687e22afe3f2d920270b6b3f63b7546385f", func := "tallboy/tallboylaw14.SsetPlays", spec := "ssetPlays", inPlace := ["slices.overlaps[byte]"], apart := false, narrowed := true }
def SsetPlaysUptoSaid : Prop := ssetPlaysUptoRow.holds Tryz.pinned (OpenSpec.upto ssetPlaysSpec)

/-- 'tallboylaw14.SsetSeveral', WHERE WHAT IT READS IS OF BULK AT MOST 1048576: true; the input reads as it did. -/
def ssetSeveralUptoRow : OpenClaim := { program := "ytkohjejfkbaffaagreat", sum := "7aab0f6617b9d52aba36768ed1874687e22afe3f2d920270b6b3f63b7546385f", func := "tallboy/tallboylaw14.SsetSeveral", spec := "ssetSeveral", inPlace := ["slices.overlaps[byte]"], apart := false, narrowed := true }
def SsetSeveralUptoSaid : Prop := ssetSeveralUptoRow.holds Tryz.pinned (OpenSpec.upto ssetSeveralSpec)

/-- 'tallboylaw14.SsetLaws', WHERE WHAT IT READS IS OF BULK AT MOST 1048576: true; the input reads as it did. -/
def ssetLawsUptoRow : OpenClaim := { program := "ytkohjejfkbaffaagreat", sum := "7aab0f6617b9d52aba36768ed1874687e22afe3f2d920270b6b3f63b7546385f", func := "tallboy/tallboylaw14.SsetLaws", spec := "ssetLaws", inPlace := ["slices.overlaps[byte]"], apart := false, narrowed := true }
def SsetLawsUptoSaid : Prop := ssetLawsUptoRow.holds Tryz.pinned (OpenSpec.upto ssetLawsSpec)

/-- 'tallboylaw14.SsetPicks', WHERE WHAT IT READS IS OF BULK AT MOST 1048576: true; the input reads as it did. -/
def ssetPicksUptoRow : OpenClaim := { program := "ytkohjejfkbaffaagreat", sum := "7aab0f6617b9d52aba36768ed1874687e22afe3f2d920270b6b3f63b7546385f", func := "tallboy/tallboylaw14.SsetPicks", spec := "ssetPicks", inPlace := ["slices.overlaps[byte]"], apart := false, narrowed := true }
def SsetPicksUptoSaid : Prop := ssetPicksUptoRow.holds Tryz.pinned (OpenSpec.upto ssetPicksSpec)

/-- 'tallboylaw14.SsetCopies', WHERE WHAT IT READS IS OF BULK AT MOST 1048576: true; the input reads as it did. -/
def ssetCopiesUptoRow : OpenClaim := { program := "ytkohjejfkbaffaagreat", sum := "7aab0f6617b9d52aba36768ed1874687e22afe3f2d920270b6b3f63b7546385f", func := "tallboy/tallboylaw14.SsetCopies", spec := "ssetCopies", inPlace := ["slices.overlaps[byte]"], apart := false, narrowed := true }
def SsetCopiesUptoSaid : Prop := ssetCopiesUptoRow.holds Tryz.pinned (OpenSpec.upto ssetCopiesSpec)

end Rows
end Go.Proofs.YtkohjejfkbaffaaGreat
