/-
  No cell of these rows narrows 'for every input' (looked for: loops, veiled, ifaces, maps, wideKeys, modest, calm, conditions, laid).
  DERIVED. THE GIVEN ROWS OF THIS SEAT. 6 by the template 'for every input the law returns true; each argument reads behind the call as it read before'; 0 by the template 'total and deterministic' (their statements: YtdiglifbiglpaaaTotals.lean).
  GIVEN WITH THE SEED: the statements are not yours to turn. If you find one false, say at which input.
  Laid BY PROGRAM, IN A SANDBOX (cutbox-rows.mjs): the forced cells as the released guide's own fill.sh prints them over the translation 15585197c4c6050e… (all of the seat's roots in one cut). By AI agents, Wed Nov 11 2026. No macro, syntax, notation, axiom, sorry.
-/
import Derived.Test.YtdiglifbiglpaaaChecked
import GoSem.Claim
import GoSem.ClaimJoined
import GoSem.ClaimMapViews
import Derived.JoinedTies
import Derived.KernelRfl
namespace Go.Proofs.Ytdiglifbiglpaaa
/- THE CELL 'sum', in the pinned program and in every row, IS THE sha256 OF THE DUMP (.gsa) THAT YtdiglifbiglpaaaProg.lean LOADS. Nothing in Lean hashes anything: it is a label: what it is worth is what the hold of that sum in a sandbox is worth. -/
noncomputable def Try.pinned : Pinned := { name := "ytdiglifbiglpaaa", sum := "15585197c4c6050e5ddf619d2d11eb86cabc02833fc25b45defe63a50ad96140", checked := Try.checked }
namespace Rows
def none {H : Type} : Left H := { results := [], args := [] }

/-- 'tallboylaw9.CursorNumbers': WHATEVER THE INPUT: true; the input reads as it did. -/
def cursorNumbersSpec : ChangeSpec := { name := "cursorNumbers", fn := fun _ => fun
  | [] => { results := [.lit (.bool true)], args := [] }
  | _ => none }
def cursorNumbersRow : OpenClaim := { program := "ytdiglifbiglpaaa", sum := "15585197c4c6050e5ddf619d2d11eb86cabc02833fc25b45defe63a50ad96140", func := "tallboy/tallboylaw9.CursorNumbers", spec := "cursorNumbers", apart := false }
def CursorNumbersSaid : Prop := cursorNumbersRow.holds Try.pinned (OpenSpec.ofChange cursorNumbersSpec)

/-- ITS FALSE NEIGHBOUR: 'it returns false'. Refute it at one input. -/
def cursorNumbersWrong : ChangeSpec := { name := "cursorNumbers", fn := fun _ => fun
  | [] => { results := [.lit (.bool false)], args := [] }
  | _ => none }
def CursorNumbersWrongFalsely : Prop := cursorNumbersRow.holds Try.pinned (OpenSpec.ofChange cursorNumbersWrong)

/-- 'tallboylaw9.CursorTells': WHATEVER THE INPUT: true; the input reads as it did. -/
def cursorTellsSpec : ChangeSpec := { name := "cursorTells", fn := fun _ => fun
  | [d1, d2, d3] => { results := [.lit (.bool true)], args := [d1, d2, d3] }
  | _ => none }
def cursorTellsRow : OpenClaim := { program := "ytdiglifbiglpaaa", sum := "15585197c4c6050e5ddf619d2d11eb86cabc02833fc25b45defe63a50ad96140", func := "tallboy/tallboylaw9.CursorTells", spec := "cursorTells", apart := false }
def CursorTellsSaid : Prop := cursorTellsRow.holds Try.pinned (OpenSpec.ofChange cursorTellsSpec)

/-- ITS FALSE NEIGHBOUR: 'it returns false'. Refute it at one input. -/
def cursorTellsWrong : ChangeSpec := { name := "cursorTells", fn := fun _ => fun
  | [d1, d2, d3] => { results := [.lit (.bool false)], args := [d1, d2, d3] }
  | _ => none }
def CursorTellsWrongFalsely : Prop := cursorTellsRow.holds Try.pinned (OpenSpec.ofChange cursorTellsWrong)

/-- 'tallboylaw9.CursorAlls': WHATEVER THE INPUT: true; the input reads as it did. -/
def cursorAllsSpec : ChangeSpec := { name := "cursorAlls", fn := fun _ => fun
  | [d] => { results := [.lit (.bool true)], args := [d] }
  | _ => none }
def cursorAllsRow : OpenClaim := { program := "ytdiglifbiglpaaa", sum := "15585197c4c6050e5ddf619d2d11eb86cabc02833fc25b45defe63a50ad96140", func := "tallboy/tallboylaw9.CursorAlls", spec := "cursorAlls", apart := false }
def CursorAllsSaid : Prop := cursorAllsRow.holds Try.pinned (OpenSpec.ofChange cursorAllsSpec)

/-- ITS FALSE NEIGHBOUR: 'it returns false'. Refute it at one input. -/
def cursorAllsWrong : ChangeSpec := { name := "cursorAlls", fn := fun _ => fun
  | [d] => { results := [.lit (.bool false)], args := [d] }
  | _ => none }
def CursorAllsWrongFalsely : Prop := cursorAllsRow.holds Try.pinned (OpenSpec.ofChange cursorAllsWrong)

/-- 'tallboylaw9.CursorDeeper': WHATEVER THE INPUT: true; the input reads as it did. -/
def cursorDeeperSpec : ChangeSpec := { name := "cursorDeeper", fn := fun _ => fun
  | [d1, d2, d3, d4] => { results := [.lit (.bool true)], args := [d1, d2, d3, d4] }
  | _ => none }
def cursorDeeperRow : OpenClaim := { program := "ytdiglifbiglpaaa", sum := "15585197c4c6050e5ddf619d2d11eb86cabc02833fc25b45defe63a50ad96140", func := "tallboy/tallboylaw9.CursorDeeper", spec := "cursorDeeper", apart := false }
def CursorDeeperSaid : Prop := cursorDeeperRow.holds Try.pinned (OpenSpec.ofChange cursorDeeperSpec)

/-- ITS FALSE NEIGHBOUR: 'it returns false'. Refute it at one input. -/
def cursorDeeperWrong : ChangeSpec := { name := "cursorDeeper", fn := fun _ => fun
  | [d1, d2, d3, d4] => { results := [.lit (.bool false)], args := [d1, d2, d3, d4] }
  | _ => none }
def CursorDeeperWrongFalsely : Prop := cursorDeeperRow.holds Try.pinned (OpenSpec.ofChange cursorDeeperWrong)

/-- 'tallboylaw9.CursorLong': WHATEVER THE INPUT: true; the input reads as it did. -/
def cursorLongSpec : ChangeSpec := { name := "cursorLong", fn := fun _ => fun
  | [d1, d2, d3] => { results := [.lit (.bool true)], args := [d1, d2, d3] }
  | _ => none }
def cursorLongRow : OpenClaim := { program := "ytdiglifbiglpaaa", sum := "15585197c4c6050e5ddf619d2d11eb86cabc02833fc25b45defe63a50ad96140", func := "tallboy/tallboylaw9.CursorLong", spec := "cursorLong", apart := false }
def CursorLongSaid : Prop := cursorLongRow.holds Try.pinned (OpenSpec.ofChange cursorLongSpec)

/-- ITS FALSE NEIGHBOUR: 'it returns false'. Refute it at one input. -/
def cursorLongWrong : ChangeSpec := { name := "cursorLong", fn := fun _ => fun
  | [d1, d2, d3] => { results := [.lit (.bool false)], args := [d1, d2, d3] }
  | _ => none }
def CursorLongWrongFalsely : Prop := cursorLongRow.holds Try.pinned (OpenSpec.ofChange cursorLongWrong)

/-- 'tallboylaw9.CursorOrders': WHATEVER THE INPUT: true; the input reads as it did. -/
def cursorOrdersSpec : ChangeSpec := { name := "cursorOrders", fn := fun _ => fun
  | [d1, d2, d3, d4] => { results := [.lit (.bool true)], args := [d1, d2, d3, d4] }
  | _ => none }
def cursorOrdersRow : OpenClaim := { program := "ytdiglifbiglpaaa", sum := "15585197c4c6050e5ddf619d2d11eb86cabc02833fc25b45defe63a50ad96140", func := "tallboy/tallboylaw9.CursorOrders", spec := "cursorOrders", apart := false }
def CursorOrdersSaid : Prop := cursorOrdersRow.holds Try.pinned (OpenSpec.ofChange cursorOrdersSpec)

/-- ITS FALSE NEIGHBOUR: 'it returns false'. Refute it at one input. -/
def cursorOrdersWrong : ChangeSpec := { name := "cursorOrders", fn := fun _ => fun
  | [d1, d2, d3, d4] => { results := [.lit (.bool false)], args := [d1, d2, d3, d4] }
  | _ => none }
def CursorOrdersWrongFalsely : Prop := cursorOrdersRow.holds Try.pinned (OpenSpec.ofChange cursorOrdersWrong)

/- THE SECOND FORM. 'bulk': how many values and letters a reading holds, each counted each time it is reached (what is shared counts as often as it is met; a slice's spare places count too). A statement '..UptoSaid' is the law's where the arguments, and the package variables that the reading takes, are together of bulk at most 1048576: NARROWER than '..Said'. Prove '..Said' where nothing that the law and all that it calls make is longer than what came in: it says more and counts as full. Else prove '..UptoSaid'. A law counts once. -/
mutual
def uptoBulk {H : Type} : DataW H → Nat
  | .lit (.string bytes) => bytes.length + 1
  | .lit _ => 1
  | .nil => 1
  | .ptr d => uptoBulk d + 1
  | .slice elems spare => uptoBulkAll elems + uptoBulkAll spare + 1
  | .agg parts => uptoBulkAll parts + 1
  | .iface _ d => uptoBulk d + 1
  | .map entries => uptoBulkEntries entries + 1
  | .held _ => 1
def uptoBulkAll {H : Type} : List (DataW H) → Nat
  | [] => 0
  | d :: r => uptoBulk d + uptoBulkAll r
def uptoBulkEntries {H : Type} : List (Lit × DataW H) → Nat
  | [] => 0
  | x :: r => uptoBulkEntry x + uptoBulkEntries r
def uptoBulkEntry {H : Type} : Lit × DataW H → Nat
  | (.string bytes, d) => bytes.length + uptoBulk d + 1
  | (_, d) => uptoBulk d + 1
 end
def uptoSmall : (H : Type) → List (DataW H) → Bool := fun _ ds => decide (uptoBulkAll ds ≤ 1048576)
def OpenSpec.upto (s : _root_.Go.ChangeSpec) : _root_.Go.OpenSpec := { _root_.Go.OpenSpec.ofChange s with cond := some uptoSmall }

/-- 'tallboylaw9.CursorNumbers', WHERE WHAT IT READS IS OF BULK AT MOST 1048576: true; the input reads as it did. -/
def cursorNumbersUptoRow : OpenClaim := { program := "ytdiglifbiglpaaa", sum := "15585197c4c6050e5ddf619d2d11eb86cabc02833fc25b45defe63a50ad96140", func := "tallboy/tallboylaw9.CursorNumbers", spec := "cursorNumbers", apart := false, narrowed := true }
def CursorNumbersUptoSaid : Prop := cursorNumbersUptoRow.holds Try.pinned (OpenSpec.upto cursorNumbersSpec)

/-- 'tallboylaw9.CursorTells', WHERE WHAT IT READS IS OF BULK AT MOST 1048576: true; the input reads as it did. -/
def cursorTellsUptoRow : OpenClaim := { program := "ytdiglifbiglpaaa", sum := "15585197c4c6050e5ddf619d2d11eb86cabc02833fc25b45defe63a50ad96140", func := "tallboy/tallboylaw9.CursorTells", spec := "cursorTells", apart := false, narrowed := true }
def CursorTellsUptoSaid : Prop := cursorTellsUptoRow.holds Try.pinned (OpenSpec.upto cursorTellsSpec)

/-- 'tallboylaw9.CursorAlls', WHERE WHAT IT READS IS OF BULK AT MOST 1048576: true; the input reads as it did. -/
def cursorAllsUptoRow : OpenClaim := { program := "ytdiglifbiglpaaa", sum := "15585197c4c6050e5ddf619d2d11eb86cabc02833fc25b45defe63a50ad96140", func := "tallboy/tallboylaw9.CursorAlls", spec := "cursorAlls", apart := false, narrowed := true }
def CursorAllsUptoSaid : Prop := cursorAllsUptoRow.holds Try.pinned (OpenSpec.upto cursorAllsSpec)

/-- 'tallboylaw9.CursorDeeper', WHERE WHAT IT READS IS OF BULK AT MOST 1048576: true; the input reads as it did. -/
def cursorDeeperUptoRow : OpenClaim := { program := "ytdiglifbiglpaaa", sum := "15585197c4c6050e5ddf619d2d11eb86cabc02833fc25b45defe63a50ad96140", func := "tallboy/tallboylaw9.CursorDeeper", spec := "cursorDeeper", apart := false, narrowed := true }
def CursorDeeperUptoSaid : Prop := cursorDeeperUptoRow.holds Try.pinned (OpenSpec.upto cursorDeeperSpec)

/-- 'tallboylaw9.CursorLong', WHERE WHAT IT READS IS OF BULK AT MOST 1048576: true; the input reads as it did. -/
def cursorLongUptoRow : OpenClaim := { program := "ytdiglifbiglpaaa", sum := "15585197c4c6050e5ddf619d2d11eb86cabc02833fc25b45defe63a50ad96140", func := "tallboy/tallboylaw9.CursorLong", spec := "cursorLong", apart := false, narrowed := true }
def CursorLongUptoSaid : Prop := cursorLongUptoRow.holds Try.pinned (OpenSpec.upto cursorLongSpec)

/-- 'tallboylaw9.CursorOrders', WHERE WHAT IT READS IS OF BULK AT MOST 1048576: true; the input reads as it did. -/
def cursorOrdersUptoRow : OpenClaim := { program := "ytdiglifbiglpaaa", sum := "15585197c4c6050e5ddf619d2d11eb86cabc02833fc25b45defe63a50ad96140", func := "tallboy/tallboylaw9.CursorOrders", spec := "cursorOrders", apart := false, narrowed := true }
def CursorOrdersUptoSaid : Prop := cursorOrdersUptoRow.holds Try.pinned (OpenSpec.upto cursorOrdersSpec)

end Rows
end Go.Proofs.Ytdiglifbiglpaaa
