/-
  No cell of these rows narrows 'for every input' (looked for: loops, veiled, ifaces, maps, wideKeys, modest, calm, conditions, laid).
  DERIVED. THE GIVEN ROWS OF THIS SEAT. 6 by the template 'for every input the law returns true; each argument reads behind the call as it read before'; 0 by the template 'total and deterministic' (their statements: YtjikfpdlbjjmbaaTotals.lean).
  GIVEN WITH THE SEED: the statements are not yours to turn. If you find one false, say at which input.
  Laid BY PROGRAM, IN A SANDBOX (cutbox-rows.mjs): the forced cells as the released guide's own fill.sh prints them over the translation 14652755967625fc… (all of the seat's roots in one cut). By AI agents, Wed Nov 11 2026. No macro, syntax, notation, axiom, sorry.
-/
import Derived.Test.YtjikfpdlbjjmbaaChecked
import GoSem.Claim
import GoSem.ClaimJoined
import GoSem.ClaimMapViews
import Derived.JoinedTies
import Derived.KernelRfl
namespace Go.Proofs.Ytjikfpdlbjjmbaa
/- THE CELL 'sum', in the pinned program and in every row, IS THE sha256 OF THE DUMP (.gsa) THAT YtjikfpdlbjjmbaaProg.lean LOADS. Nothing in Lean hashes anything: it is a label: what it is worth is what the hold of that sum in a sandbox is worth. -/
noncomputable def Try.pinned : Pinned := { name := "ytjikfpdlbjjmbaa", sum := "14652755967625fca7bffc479d6e01080febe0a565811266e8f74b00d3f653c2", checked := Try.checked }
namespace Rows
def none {H : Type} : Left H := { results := [], args := [] }

/-- 'tallboylaw11.TextNumbers': WHATEVER THE INPUT: true; the input reads as it did. -/
def textNumbersSpec : ChangeSpec := { name := "textNumbers", fn := fun _ => fun
  | [] => { results := [.lit (.bool true)], args := [] }
  | _ => none }
def textNumbersRow : OpenClaim := { program := "ytjikfpdlbjjmbaa", sum := "14652755967625fca7bffc479d6e01080febe0a565811266e8f74b00d3f653c2", func := "tallboy/tallboylaw11.TextNumbers", spec := "textNumbers", apart := false }
def TextNumbersSaid : Prop := textNumbersRow.holds Try.pinned (OpenSpec.ofChange textNumbersSpec)

/-- ITS FALSE NEIGHBOUR: 'it returns false'. Refute it at one input. -/
def textNumbersWrong : ChangeSpec := { name := "textNumbers", fn := fun _ => fun
  | [] => { results := [.lit (.bool false)], args := [] }
  | _ => none }
def TextNumbersWrongFalsely : Prop := textNumbersRow.holds Try.pinned (OpenSpec.ofChange textNumbersWrong)

/-- 'tallboylaw11.TextTells': WHATEVER THE INPUT: true; the input reads as it did. -/
def textTellsSpec : ChangeSpec := { name := "textTells", fn := fun _ => fun
  | [d1, d2, d3, d4, d5, d6] => { results := [.lit (.bool true)], args := [d1, d2, d3, d4, d5, d6] }
  | _ => none }
def textTellsRow : OpenClaim := { program := "ytjikfpdlbjjmbaa", sum := "14652755967625fca7bffc479d6e01080febe0a565811266e8f74b00d3f653c2", func := "tallboy/tallboylaw11.TextTells", spec := "textTells", apart := false }
def TextTellsSaid : Prop := textTellsRow.holds Try.pinned (OpenSpec.ofChange textTellsSpec)

/-- ITS FALSE NEIGHBOUR: 'it returns false'. Refute it at one input. -/
def textTellsWrong : ChangeSpec := { name := "textTells", fn := fun _ => fun
  | [d1, d2, d3, d4, d5, d6] => { results := [.lit (.bool false)], args := [d1, d2, d3, d4, d5, d6] }
  | _ => none }
def TextTellsWrongFalsely : Prop := textTellsRow.holds Try.pinned (OpenSpec.ofChange textTellsWrong)

/-- 'tallboylaw11.TextBits': WHATEVER THE INPUT: true; the input reads as it did. -/
def textBitsSpec : ChangeSpec := { name := "textBits", fn := fun _ => fun
  | [d1, d2, d3, d4] => { results := [.lit (.bool true)], args := [d1, d2, d3, d4] }
  | _ => none }
def textBitsRow : OpenClaim := { program := "ytjikfpdlbjjmbaa", sum := "14652755967625fca7bffc479d6e01080febe0a565811266e8f74b00d3f653c2", func := "tallboy/tallboylaw11.TextBits", spec := "textBits", apart := false }
def TextBitsSaid : Prop := textBitsRow.holds Try.pinned (OpenSpec.ofChange textBitsSpec)

/-- ITS FALSE NEIGHBOUR: 'it returns false'. Refute it at one input. -/
def textBitsWrong : ChangeSpec := { name := "textBits", fn := fun _ => fun
  | [d1, d2, d3, d4] => { results := [.lit (.bool false)], args := [d1, d2, d3, d4] }
  | _ => none }
def TextBitsWrongFalsely : Prop := textBitsRow.holds Try.pinned (OpenSpec.ofChange textBitsWrong)

/-- 'tallboylaw11.TextRanges': WHATEVER THE INPUT: true; the input reads as it did. -/
def textRangesSpec : ChangeSpec := { name := "textRanges", fn := fun _ => fun
  | [d1, d2, d3] => { results := [.lit (.bool true)], args := [d1, d2, d3] }
  | _ => none }
def textRangesRow : OpenClaim := { program := "ytjikfpdlbjjmbaa", sum := "14652755967625fca7bffc479d6e01080febe0a565811266e8f74b00d3f653c2", func := "tallboy/tallboylaw11.TextRanges", spec := "textRanges", apart := false }
def TextRangesSaid : Prop := textRangesRow.holds Try.pinned (OpenSpec.ofChange textRangesSpec)

/-- ITS FALSE NEIGHBOUR: 'it returns false'. Refute it at one input. -/
def textRangesWrong : ChangeSpec := { name := "textRanges", fn := fun _ => fun
  | [d1, d2, d3] => { results := [.lit (.bool false)], args := [d1, d2, d3] }
  | _ => none }
def TextRangesWrongFalsely : Prop := textRangesRow.holds Try.pinned (OpenSpec.ofChange textRangesWrong)

/-- 'tallboylaw11.TextCounts': WHATEVER THE INPUT: true; the input reads as it did. -/
def textCountsSpec : ChangeSpec := { name := "textCounts", fn := fun _ => fun
  | [d1, d2] => { results := [.lit (.bool true)], args := [d1, d2] }
  | _ => none }
def textCountsRow : OpenClaim := { program := "ytjikfpdlbjjmbaa", sum := "14652755967625fca7bffc479d6e01080febe0a565811266e8f74b00d3f653c2", func := "tallboy/tallboylaw11.TextCounts", spec := "textCounts", apart := false }
def TextCountsSaid : Prop := textCountsRow.holds Try.pinned (OpenSpec.ofChange textCountsSpec)

/-- ITS FALSE NEIGHBOUR: 'it returns false'. Refute it at one input. -/
def textCountsWrong : ChangeSpec := { name := "textCounts", fn := fun _ => fun
  | [d1, d2] => { results := [.lit (.bool false)], args := [d1, d2] }
  | _ => none }
def TextCountsWrongFalsely : Prop := textCountsRow.holds Try.pinned (OpenSpec.ofChange textCountsWrong)

/-- 'tallboylaw11.TextIncrs': WHATEVER THE INPUT: true; the input reads as it did. -/
def textIncrsSpec : ChangeSpec := { name := "textIncrs", fn := fun _ => fun
  | [d1, d2] => { results := [.lit (.bool true)], args := [d1, d2] }
  | _ => none }
def textIncrsRow : OpenClaim := { program := "ytjikfpdlbjjmbaa", sum := "14652755967625fca7bffc479d6e01080febe0a565811266e8f74b00d3f653c2", func := "tallboy/tallboylaw11.TextIncrs", spec := "textIncrs", apart := false }
def TextIncrsSaid : Prop := textIncrsRow.holds Try.pinned (OpenSpec.ofChange textIncrsSpec)

/-- ITS FALSE NEIGHBOUR: 'it returns false'. Refute it at one input. -/
def textIncrsWrong : ChangeSpec := { name := "textIncrs", fn := fun _ => fun
  | [d1, d2] => { results := [.lit (.bool false)], args := [d1, d2] }
  | _ => none }
def TextIncrsWrongFalsely : Prop := textIncrsRow.holds Try.pinned (OpenSpec.ofChange textIncrsWrong)

/- THE SECOND FORM. 'bulk': how many values and letters a reading holds, each counted each time it is reached (what is shared counts as often as it is met; a slice's spare places count too). A statement '..UptoSaid' is the law's where the arguments, and the package variables that the reading takes, are together of bulk at most 1048576: NARROWER than '..Said'. Prove '..Said' where nothing that the law and all that it calls make is longer than what came in: it says more and counts as full. Else prove '..UptoSaid'. A law counts once. -/
mutual
def uptoBulk {H : Type} : DataW H → Nat
  | .lit (.string bytes) => bytes.length + 1
  | .lit _ => 1
  | .nil => 1
  | .ptr d => uptoBulk d + 1
  | .slice elems spare => uptoBulkAll elems + uptoBulkAll spare + 1
  | .agg parts => uptoBulkAll parts + 1
  | .iface _ d => uptoBulk d + 1
  | .map entries => uptoBulkEntries entries + 1
  | .held _ => 1
def uptoBulkAll {H : Type} : List (DataW H) → Nat
  | [] => 0
  | d :: r => uptoBulk d + uptoBulkAll r
def uptoBulkEntries {H : Type} : List (Lit × DataW H) → Nat
  | [] => 0
  | x :: r => uptoBulkEntry x + uptoBulkEntries r
def uptoBulkEntry {H : Type} : Lit × DataW H → Nat
  | (.string bytes, d) => bytes.length + uptoBulk d + 1
  | (_, d) => uptoBulk d + 1
 end
def uptoSmall : (H : Type) → List (DataW H) → Bool := fun _ ds => decide (uptoBulkAll ds ≤ 1048576)
def OpenSpec.upto (s : _root_.Go.ChangeSpec) : _root_.Go.OpenSpec := { _root_.Go.OpenSpec.ofChange s with cond := some uptoSmall }

/-- 'tallboylaw11.TextNumbers', WHERE WHAT IT READS IS OF BULK AT MOST 1048576: true; the input reads as it did. -/
def textNumbersUptoRow : OpenClaim := { program := "ytjikfpdlbjjmbaa", sum := "14652755967625fca7bffc479d6e01080febe0a565811266e8f74b00d3f653c2", func := "tallboy/tallboylaw11.TextNumbers", spec := "textNumbers", apart := false, narrowed := true }
def TextNumbersUptoSaid : Prop := textNumbersUptoRow.holds Try.pinned (OpenSpec.upto textNumbersSpec)

/-- 'tallboylaw11.TextTells', WHERE WHAT IT READS IS OF BULK AT MOST 1048576: true; the input reads as it did. -/
def textTellsUptoRow : OpenClaim := { program := "ytjikfpdlbjjmbaa", sum := "14652755967625fca7bffc479d6e01080febe0a565811266e8f74b00d3f653c2", func := "tallboy/tallboylaw11.TextTells", spec := "textTells", apart := false, narrowed := true }
def TextTellsUptoSaid : Prop := textTellsUptoRow.holds Try.pinned (OpenSpec.upto textTellsSpec)

/-- 'tallboylaw11.TextBits', WHERE WHAT IT READS IS OF BULK AT MOST 1048576: true; the input reads as it did. -/
def textBitsUptoRow : OpenClaim := { program := "ytjikfpdlbjjmbaa", sum := "14652755967625fca7bffc479d6e01080febe0a565811266e8f74b00d3f653c2", func := "tallboy/tallboylaw11.TextBits", spec := "textBits", apart := false, narrowed := true }
def TextBitsUptoSaid : Prop := textBitsUptoRow.holds Try.pinned (OpenSpec.upto textBitsSpec)

/-- 'tallboylaw11.TextRanges', WHERE WHAT IT READS IS OF BULK AT MOST 1048576: true; the input reads as it did. -/
def textRangesUptoRow : OpenClaim := { program := "ytjikfpdlbjjmbaa", sum := "14652755967625fca7bffc479d6e01080febe0a565811266e8f74b00d3f653c2", func := "tallboy/tallboylaw11.TextRanges", spec := "textRanges", apart := false, narrowed := true }
def TextRangesUptoSaid : Prop := textRangesUptoRow.holds Try.pinned (OpenSpec.upto textRangesSpec)

/-- 'tallboylaw11.TextCounts', WHERE WHAT IT READS IS OF BULK AT MOST 1048576: true; the input reads as it did. -/
def textCountsUptoRow : OpenClaim := { program := "ytjikfpdlbjjmbaa", sum := "14652755967625fca7bffc479d6e01080febe0a565811266e8f74b00d3f653c2", func := "tallboy/tallboylaw11.TextCounts", spec := "textCounts", apart := false, narrowed := true }
def TextCountsUptoSaid : Prop := textCountsUptoRow.holds Try.pinned (OpenSpec.upto textCountsSpec)

/-- 'tallboylaw11.TextIncrs', WHERE WHAT IT READS IS OF BULK AT MOST 1048576: true; the input reads as it did. -/
def textIncrsUptoRow : OpenClaim := { program := "ytjikfpdlbjjmbaa", sum := "14652755967625fca7bffc479d6e01080febe0a565811266e8f74b00d3f653c2", func := "tallboy/tallboylaw11.TextIncrs", spec := "textIncrs", apart := false, narrowed := true }
def TextIncrsUptoSaid : Prop := textIncrsUptoRow.holds Try.pinned (OpenSpec.upto textIncrsSpec)

end Rows
end Go.Proofs.Ytjikfpdlbjjmbaa
