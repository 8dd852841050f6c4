/-
  No cell of these rows narrows 'for every input' (looked for: loops, veiled, ifaces, maps, wideKeys, modest, calm, conditions, laid).
  DERIVED. THE GIVEN ROWS OF THIS SEAT. 4 by the template 'for every input the law returns true; each argument reads behind the call as it read before'; 0 by the template 'total and deterministic' (their statements: YtikimcbalkhooaaGreatTotals.lean).
  GIVEN WITH THE SEED: the statements are not yours to turn. If you find one false, say at which input.
  Laid BY PROGRAM, IN A SANDBOX (cutbox-rows.mjs): the forced cells as the released guide's own fill.sh prints them over the translation 9856e13df3141495… (all of the seat's roots in one cut). By AI agents, Wed Nov 11 2026. No macro, syntax, notation, axiom, sorry.
-/
import Derived.Test.YtikimcbalkhooaaGreatChecked
import GoSem.Claim
import GoSem.ClaimJoined
import GoSem.ClaimMapViews
import Derived.JoinedTies
import Derived.KernelRfl
namespace Go.Proofs.YtikimcbalkhooaaGreat
/- THE CELL 'sum', in the pinned program and in every row, IS THE sha256 OF THE DUMP (.gsa) THAT YtikimcbalkhooaaGreatProg.lean LOADS. Nothing in Lean hashes anything: it is a label: what it is worth is what the hold of that sum in a sandbox is worth. -/
noncomputable def Tryz.pinned : Pinned := { name := "ytikimcbalkhooaagreat", sum := "9856e13df3141495d26f012966a41f03d9ce1a264a61ccec7f31cc883c27aaee", checked := Tryz.checked }
namespace Rows
def none {H : Type} : Left H := { results := [], args := [] }

/-- 'tallboylaw15.ValueTells': WHATEVER THE INPUT: true; the input reads as it did. -/
def valueTellsSpec : ChangeSpec := { name := "valueTells", fn := fun _ => fun
  | [d1, d2, d3] => { results := [.lit (.bool true)], args := [d1, d2, d3] }
  | _ => none }
def valueTellsRow : OpenClaim := { program := "ytikimcbalkhooaagreat", sum := "9856e13df3141495d26f012966a41f03d9ce1a264a61ccec7f31cc883c27aaee", func := "tallboy/tallboylaw15.ValueTells", spec := "valueTells", inPlace := ["slices.overlaps[byte]", "internal/bytealg.abigen_runtime_cmpstring"], unfollowed := true, recurses := true, apart := false }
def ValueTellsSaid : Prop := valueTellsRow.holds Tryz.pinned (OpenSpec.ofChange valueTellsSpec)

/-- ITS FALSE NEIGHBOUR: 'it returns false'. Refute it at one input. -/
def valueTellsWrong : ChangeSpec := { name := "valueTells", fn := fun _ => fun
  | [d1, d2, d3] => { results := [.lit (.bool false)], args := [d1, d2, d3] }
  | _ => none }
def ValueTellsWrongFalsely : Prop := valueTellsRow.holds Tryz.pinned (OpenSpec.ofChange valueTellsWrong)

/-- 'tallboylaw15.ValueSames': WHATEVER THE INPUT: true; the input reads as it did. -/
def valueSamesSpec : ChangeSpec := { name := "valueSames", fn := fun _ => fun
  | [d1, d2, d3, d4] => { results := [.lit (.bool true)], args := [d1, d2, d3, d4] }
  | _ => none }
def valueSamesRow : OpenClaim := { program := "ytikimcbalkhooaagreat", sum := "9856e13df3141495d26f012966a41f03d9ce1a264a61ccec7f31cc883c27aaee", func := "tallboy/tallboylaw15.ValueSames", spec := "valueSames", inPlace := ["slices.overlaps[byte]", "internal/bytealg.abigen_runtime_cmpstring"], unfollowed := true, recurses := true, apart := false }
def ValueSamesSaid : Prop := valueSamesRow.holds Tryz.pinned (OpenSpec.ofChange valueSamesSpec)

/-- ITS FALSE NEIGHBOUR: 'it returns false'. Refute it at one input. -/
def valueSamesWrong : ChangeSpec := { name := "valueSames", fn := fun _ => fun
  | [d1, d2, d3, d4] => { results := [.lit (.bool false)], args := [d1, d2, d3, d4] }
  | _ => none }
def ValueSamesWrongFalsely : Prop := valueSamesRow.holds Tryz.pinned (OpenSpec.ofChange valueSamesWrong)

/-- 'tallboylaw15.ValueCopies': WHATEVER THE INPUT: true; the input reads as it did. -/
def valueCopiesSpec : ChangeSpec := { name := "valueCopies", fn := fun _ => fun
  | [d1, d2, d3] => { results := [.lit (.bool true)], args := [d1, d2, d3] }
  | _ => none }
def valueCopiesRow : OpenClaim := { program := "ytikimcbalkhooaagreat", sum := "9856e13df3141495d26f012966a41f03d9ce1a264a61ccec7f31cc883c27aaee", func := "tallboy/tallboylaw15.ValueCopies", spec := "valueCopies", inPlace := ["slices.overlaps[byte]", "internal/bytealg.abigen_runtime_cmpstring"], unfollowed := true, recurses := true, apart := false }
def ValueCopiesSaid : Prop := valueCopiesRow.holds Tryz.pinned (OpenSpec.ofChange valueCopiesSpec)

/-- ITS FALSE NEIGHBOUR: 'it returns false'. Refute it at one input. -/
def valueCopiesWrong : ChangeSpec := { name := "valueCopies", fn := fun _ => fun
  | [d1, d2, d3] => { results := [.lit (.bool false)], args := [d1, d2, d3] }
  | _ => none }
def ValueCopiesWrongFalsely : Prop := valueCopiesRow.holds Tryz.pinned (OpenSpec.ofChange valueCopiesWrong)

/-- 'tallboylaw15.ValueLens': WHATEVER THE INPUT: true; the input reads as it did. -/
def valueLensSpec : ChangeSpec := { name := "valueLens", fn := fun _ => fun
  | [d1, d2, d3] => { results := [.lit (.bool true)], args := [d1, d2, d3] }
  | _ => none }
def valueLensRow : OpenClaim := { program := "ytikimcbalkhooaagreat", sum := "9856e13df3141495d26f012966a41f03d9ce1a264a61ccec7f31cc883c27aaee", func := "tallboy/tallboylaw15.ValueLens", spec := "valueLens", inPlace := ["slices.overlaps[byte]", "internal/bytealg.abigen_runtime_cmpstring"], unfollowed := true, recurses := true, apart := false }
def ValueLensSaid : Prop := valueLensRow.holds Tryz.pinned (OpenSpec.ofChange valueLensSpec)

/-- ITS FALSE NEIGHBOUR: 'it returns false'. Refute it at one input. -/
def valueLensWrong : ChangeSpec := { name := "valueLens", fn := fun _ => fun
  | [d1, d2, d3] => { results := [.lit (.bool false)], args := [d1, d2, d3] }
  | _ => none }
def ValueLensWrongFalsely : Prop := valueLensRow.holds Tryz.pinned (OpenSpec.ofChange valueLensWrong)

/- THE SECOND FORM. 'bulk': how many values and letters a reading holds, each counted each time it is reached (what is shared counts as often as it is met; a slice's spare places count too). A statement '..UptoSaid' is the law's where the arguments, and the package variables that the reading takes, are together of bulk at most 1048576: NARROWER than '..Said'. Prove '..Said' where nothing that the law and all that it calls make is longer than what came in: it says more and counts as full. Else prove '..UptoSaid'. A law counts once. -/
mutual
def uptoBulk {H : Type} : DataW H → Nat
  | .lit (.string bytes) => bytes.length + 1
  | .lit _ => 1
  | .nil => 1
  | .ptr d => uptoBulk d + 1
  | .slice elems spare => uptoBulkAll elems + uptoBulkAll spare + 1
  | .agg parts => uptoBulkAll parts + 1
  | .iface _ d => uptoBulk d + 1
  | .map entries => uptoBulkEntries entries + 1
  | .held _ => 1
def uptoBulkAll {H : Type} : List (DataW H) → Nat
  | [] => 0
  | d :: r => uptoBulk d + uptoBulkAll r
def uptoBulkEntries {H : Type} : List (Lit × DataW H) → Nat
  | [] => 0
  | x :: r => uptoBulkEntry x + uptoBulkEntries r
def uptoBulkEntry {H : Type} : Lit × DataW H → Nat
  | (.string bytes, d) => bytes.length + uptoBulk d + 1
  | (_, d) => uptoBulk d + 1
 end
def uptoSmall : (H : Type) → List (DataW H) → Bool := fun _ ds => decide (uptoBulkAll ds ≤ 1048576)
def OpenSpec.upto (s : _root_.Go.ChangeSpec) : _root_.Go.OpenSpec := { _root_.Go.OpenSpec.ofChange s with cond := some uptoSmall }

/-- 'tallboylaw15.ValueTells', WHERE WHAT IT READS IS OF BULK AT MOST 1048576: true; the input reads as it did. -/
def valueTellsUptoRow : OpenClaim := { program := "ytikimcbalkhooaagreat", sum := "9856e13df3141495d26f012966a41f03d9ce1a264a61ccec7f31cc883c27aaee", func := "tallboy/tallboylaw15.ValueTells", spec := "valueTells", inPlace := ["slices.overlaps[byte]", "internal/bytealg.abigen_runtime_cmpstring"], unfollowed := true, recurses := true, apart := false, narrowed := true }
def ValueTellsUptoSaid : Prop := valueTellsUptoRow.holds Tryz.pinned (OpenSpec.upto valueTellsSpec)

/-- 'tallboylaw15.ValueSames', WHERE WHAT IT READS IS OF BULK AT MOST 1048576: true; the input reads as it did. -/
def valueSamesUptoRow : OpenClaim := { program := "ytikimcbalkhooaagreat", sum := "9856e13df3141495d26f012966a41f03d9ce1a264a61ccec7f31cc883c27aaee", func := "tallboy/tallboylaw15.ValueSames", spec := "valueSames", inPlace := ["slices.overlaps[byte]", "internal/bytealg.abigen_runtime_cmpstring"], unfollowed := true, recurses := true, apart := false, narrowed := true }
def ValueSamesUptoSaid : Prop := valueSamesUptoRow.holds Tryz.pinned (OpenSpec.upto valueSamesSpec)

/-- 'tallboylaw15.ValueCopies', WHERE WHAT IT READS IS OF BULK AT MOST 1048576: true; the input reads as it did. -/
def valueCopiesUptoRow : OpenClaim := { program := "ytikimcbalkhooaagreat", sum := "9856e13df3141495d26f012966a41f03d9ce1a264a61ccec7f31cc883c27aaee", func := "tallboy/tallboylaw15.ValueCopies", spec := "valueCopies", inPlace := ["slices.overlaps[byte]", "internal/bytealg.abigen_runtime_cmpstring"], unfollowed := true, recurses := true, apart := false, narrowed := true }
def ValueCopiesUptoSaid : Prop := valueCopiesUptoRow.holds Tryz.pinned (OpenSpec.upto valueCopiesSpec)

/-- 'tallboylaw15.ValueLens', WHERE WHAT IT READS IS OF BULK AT MOST 1048576: true; the input reads as it did. -/
def valueLensUptoRow : OpenClaim := { program := "ytikimcbalkhooaagreat", sum := "9856e13df3141495d26f012966a41f03d9ce1a264a61ccec7f31cc883c27aaee", func := "tallboy/tallboylaw15.ValueLens", spec := "valueLens", inPlace := ["slices.overlaps[byte]", "internal/bytealg.abigen_runtime_cmpstring"], unfollowed := true, recurses := true, apart := false, narrowed := true }
def ValueLensUptoSaid : Prop := valueLensUptoRow.holds Tryz.pinned (OpenSpec.upto valueLensSpec)

end Rows
end Go.Proofs.YtikimcbalkhooaaGreat
