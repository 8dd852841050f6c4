/-
  No cell of these rows narrows 'for every input' (looked for: loops, veiled, ifaces, maps, wideKeys, modest, calm, conditions, laid).
  DERIVED. THE GIVEN ROWS OF THIS SEAT. 3 by the template 'for every input the law returns true; each argument reads behind the call as it read before'; 0 by the template 'total and deterministic' (their statements: YtiamgnfbgiognaaTotals.lean).
  GIVEN WITH THE SEED: the statements are not yours to turn. If you find one false, say at which input.
  Laid BY PROGRAM, IN A SANDBOX (cutbox-rows.mjs): the forced cells as the released guide's own fill.sh prints them over the translation 4047b77de53d90f6… (all of the seat's roots in one cut). By AI agents, Wed Nov 11 2026. No macro, syntax, notation, axiom, sorry.
-/
import Derived.Test.YtiamgnfbgiognaaChecked
import GoSem.Claim
import GoSem.ClaimJoined
import GoSem.ClaimMapViews
import Derived.JoinedTies
import Derived.KernelRfl
namespace Go.Proofs.Ytiamgnfbgiognaa
/- THE CELL 'sum', in the pinned program and in every row, IS THE sha256 OF THE DUMP (.gsa) THAT YtiamgnfbgiognaaProg.lean LOADS. Nothing in Lean hashes anything: it is a label: what it is worth is what the hold of that sum in a sandbox is worth. -/
noncomputable def Try.pinned : Pinned := { name := "ytiamgnfbgiognaa", sum := "4047b77de53d90f6fbc9804192e966a563a9cfe7729ad08bcf7726f6324b02f1", checked := Try.checked }
namespace Rows
def none {H : Type} : Left H := { results := [], args := [] }

/-- 'tallboylaw17.ReplyTells': WHATEVER THE INPUT: true; the input reads as it did. -/
def replyTellsSpec : ChangeSpec := { name := "replyTells", fn := fun _ => fun
  | [d1, d2] => { results := [.lit (.bool true)], args := [d1, d2] }
  | _ => none }
def replyTellsRow : OpenClaim := { program := "ytiamgnfbgiognaa", sum := "4047b77de53d90f6fbc9804192e966a563a9cfe7729ad08bcf7726f6324b02f1", func := "tallboy/tallboylaw17.ReplyTells", spec := "replyTells", inPlace := ["internal/bytealg.abigen_runtime_cmpstring"], unfollowed := true, recurses := true, apart := false }
def ReplyTellsSaid : Prop := replyTellsRow.holds Try.pinned (OpenSpec.ofChange replyTellsSpec)

/-- ITS FALSE NEIGHBOUR: 'it returns false'. Refute it at one input. -/
def replyTellsWrong : ChangeSpec := { name := "replyTells", fn := fun _ => fun
  | [d1, d2] => { results := [.lit (.bool false)], args := [d1, d2] }
  | _ => none }
def ReplyTellsWrongFalsely : Prop := replyTellsRow.holds Try.pinned (OpenSpec.ofChange replyTellsWrong)

/-- 'tallboylaw17.ReplyOrders': WHATEVER THE INPUT: true; the input reads as it did. -/
def replyOrdersSpec : ChangeSpec := { name := "replyOrders", fn := fun _ => fun
  | [d] => { results := [.lit (.bool true)], args := [d] }
  | _ => none }
def replyOrdersRow : OpenClaim := { program := "ytiamgnfbgiognaa", sum := "4047b77de53d90f6fbc9804192e966a563a9cfe7729ad08bcf7726f6324b02f1", func := "tallboy/tallboylaw17.ReplyOrders", spec := "replyOrders", inPlace := ["internal/bytealg.abigen_runtime_cmpstring"], unfollowed := true, recurses := true, apart := false }
def ReplyOrdersSaid : Prop := replyOrdersRow.holds Try.pinned (OpenSpec.ofChange replyOrdersSpec)

/-- ITS FALSE NEIGHBOUR: 'it returns false'. Refute it at one input. -/
def replyOrdersWrong : ChangeSpec := { name := "replyOrders", fn := fun _ => fun
  | [d] => { results := [.lit (.bool false)], args := [d] }
  | _ => none }
def ReplyOrdersWrongFalsely : Prop := replyOrdersRow.holds Try.pinned (OpenSpec.ofChange replyOrdersWrong)

/-- 'tallboylaw17.ReplyUnlike': WHATEVER THE INPUT: true; the input reads as it did. -/
def replyUnlikeSpec : ChangeSpec := { name := "replyUnlike", fn := fun _ => fun
  | [d1, d2] => { results := [.lit (.bool true)], args := [d1, d2] }
  | _ => none }
def replyUnlikeRow : OpenClaim := { program := "ytiamgnfbgiognaa", sum := "4047b77de53d90f6fbc9804192e966a563a9cfe7729ad08bcf7726f6324b02f1", func := "tallboy/tallboylaw17.ReplyUnlike", spec := "replyUnlike", inPlace := ["internal/bytealg.abigen_runtime_cmpstring"], unfollowed := true, recurses := true, apart := false }
def ReplyUnlikeSaid : Prop := replyUnlikeRow.holds Try.pinned (OpenSpec.ofChange replyUnlikeSpec)

/-- ITS FALSE NEIGHBOUR: 'it returns false'. Refute it at one input. -/
def replyUnlikeWrong : ChangeSpec := { name := "replyUnlike", fn := fun _ => fun
  | [d1, d2] => { results := [.lit (.bool false)], args := [d1, d2] }
  | _ => none }
def ReplyUnlikeWrongFalsely : Prop := replyUnlikeRow.holds Try.pinned (OpenSpec.ofChange replyUnlikeWrong)

/- THE SECOND FORM. 'bulk': how many values and letters a reading holds, each counted each time it is reached (what is shared counts as often as it is met; a slice's spare places count too). A statement '..UptoSaid' is the law's where the arguments, and the package variables that the reading takes, are together of bulk at most 1048576: NARROWER than '..Said'. Prove '..Said' where nothing that the law and all that it calls make is longer than what came in: it says more and counts as full. Else prove '..UptoSaid'. A law counts once. -/
mutual
def uptoBulk {H : Type} : DataW H → Nat
  | .lit (.string bytes) => bytes.length + 1
  | .lit _ => 1
  | .nil => 1
  | .ptr d => uptoBulk d + 1
  | .slice elems spare => uptoBulkAll elems + uptoBulkAll spare + 1
  | .agg parts => uptoBulkAll parts + 1
  | .iface _ d => uptoBulk d + 1
  | .map entries => uptoBulkEntries entries + 1
  | .held _ => 1
def uptoBulkAll {H : Type} : List (DataW H) → Nat
  | [] => 0
  | d :: r => uptoBulk d + uptoBulkAll r
def uptoBulkEntries {H : Type} : List (Lit × DataW H) → Nat
  | [] => 0
  | x :: r => uptoBulkEntry x + uptoBulkEntries r
def uptoBulkEntry {H : Type} : Lit × DataW H → Nat
  | (.string bytes, d) => bytes.length + uptoBulk d + 1
  | (_, d) => uptoBulk d + 1
 end
def uptoSmall : (H : Type) → List (DataW H) → Bool := fun _ ds => decide (uptoBulkAll ds ≤ 1048576)
def OpenSpec.upto (s : _root_.Go.ChangeSpec) : _root_.Go.OpenSpec := { _root_.Go.OpenSpec.ofChange s with cond := some uptoSmall }

/-- 'tallboylaw17.ReplyTells', WHERE WHAT IT READS IS OF BULK AT MOST 1048576: true; the input reads as it did. -/
def replyTellsUptoRow : OpenClaim := { program := "ytiamgnfbgiognaa", sum := "4047b77de53d90f6fbc9804192e966a563a9cfe7729ad08bcf7726f6324b02f1", func := "tallboy/tallboylaw17.ReplyTells", spec := "replyTells", inPlace := ["internal/bytealg.abigen_runtime_cmpstring"], unfollowed := true, recurses := true, apart := false, narrowed := true }
def ReplyTellsUptoSaid : Prop := replyTellsUptoRow.holds Try.pinned (OpenSpec.upto replyTellsSpec)

/-- 'tallboylaw17.ReplyOrders', WHERE WHAT IT READS IS OF BULK AT MOST 1048576: true; the input reads as it did. -/
def replyOrdersUptoRow : OpenClaim := { program := "ytiamgnfbgiognaa", sum := "4047b77de53d90f6fbc9804192e966a563a9cfe7729ad08bcf7726f6324b02f1", func := "tallboy/tallboylaw17.ReplyOrders", spec := "replyOrders", inPlace := ["internal/bytealg.abigen_runtime_cmpstring"], unfollowed := true, recurses := true, apart := false, narrowed := true }
def ReplyOrdersUptoSaid : Prop := replyOrdersUptoRow.holds Try.pinned (OpenSpec.upto replyOrdersSpec)

/-- 'tallboylaw17.ReplyUnlike', WHERE WHAT IT READS IS OF BULK AT MOST 1048576: true; the input reads as it did. -/
def replyUnlikeUptoRow : OpenClaim := { program := "ytiamgnfbgiognaa", sum := "4047b77de53d90f6fbc9804192e966a563a9cfe7729ad08bcf7726f6324b02f1", func := "tallboy/tallboylaw17.ReplyUnlike", spec := "replyUnlike", inPlace := ["internal/bytealg.abigen_runtime_cmpstring"], unfollowed := true, recurses := true, apart := false, narrowed := true }
def ReplyUnlikeUptoSaid : Prop := replyUnlikeUptoRow.holds Try.pinned (OpenSpec.upto replyUnlikeSpec)

end Rows
end Go.Proofs.Ytiamgnfbgiognaa
