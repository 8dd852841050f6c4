/-
  NARROWER THAN 'FOR EVERY INPUT', by the rows' own cells (each row's printed sentence says how): StrsTwins: laid · StrsSets: laid · StrsKeeps: laid · StrsMany: laid.
  DERIVED. THE GIVEN ROWS OF THIS SEAT. 4 by the template 'for every input the law returns true; each argument reads behind the call as it read before'; 0 by the template 'total and deterministic' (their statements: YtnajhjmdpaeelaaGreatDoorTotals.lean).
  GIVEN WITH THE SEED: the statements are not yours to turn. If you find one false, say at which input.
  Laid BY PROGRAM, IN A SANDBOX (cutbox-rows.mjs): the forced cells as the released guide's own fill.sh prints them over the translation 478ebbfd01b127e4… (all of the seat's roots in one cut). By AI agents, Wed Nov 11 2026. No macro, syntax, notation, axiom, sorry.
-/
import Derived.Test.YtnajhjmdpaeelaaGreatDoorChecked
import GoSem.Claim
import GoSem.ClaimJoined
import GoSem.ClaimMapViews
import Derived.JoinedTies
import Derived.KernelRfl
namespace Go.Proofs.YtnajhjmdpaeelaaGreatDoor
/- THE CELL 'sum', in the pinned program and in every row, IS THE sha256 OF THE DUMP (.gsa) THAT YtnajhjmdpaeelaaGreatDoorProg.lean LOADS. Nothing in Lean hashes anything: it is a label: what it is worth is what the hold of that sum in a sandbox is worth. -/
noncomputable def Tryz.pinned : Pinned := { name := "ytnajhjmdpaeelaagreatdoor", sum := "478ebbfd01b127e444c5a15542e38f4f1580d18cd91bdd5f9dc364da21a8d97e", checked := Tryz.checked }
namespace Rows
def none {H : Type} : Left H := { results := [], args := [] }

/- WHAT THE LISTED PACKAGE-LEVEL VARIABLES READ AS WHEN THE CALL BEGINS. Each datum BY PROGRAM (the guide's laid-datum.mjs) off the statement by which the dump's own 'gosem.cut.vars' lays the variable. In a bare row this is a premise. The card (YtnajhjmdpaeelaaGreatDoorCards.lean) ties it to the program's text. -/
def laid_errors_errorType {H : Type} : DataW H := .iface "internal/reflectlite.rtype" (.agg [.ptr (.lit (.string [101, 114, 114, 111, 114]))])

/-- 'tallboylaw21.StrsTwins': WHATEVER THE INPUT: true; the input reads as it did. -/
def strsTwinsSpec : ChangeSpec := { name := "strsTwins", fn := fun _ => fun
  | [d1, d2] => { results := [.lit (.bool true)], args := [d1, d2] }
  | _ => none }
def strsTwinsRow : OpenClaim := { program := "ytnajhjmdpaeelaagreatdoor", sum := "478ebbfd01b127e444c5a15542e38f4f1580d18cd91bdd5f9dc364da21a8d97e", func := "tallboy/tallboylaw21.StrsTwins", spec := "strsTwins", inPlace := ["internal/reflectlite.ValueOf", "(internal/reflectlite.Value).Type", "(internal/reflectlite.Value).IsNil", "internal/reflectlite.TypeOf", "(internal/reflectlite.Value).Elem", "(internal/reflectlite.Value).Set"], unfollowed := true, recurses := true, named := ["errors.errorType"], apart := false, laid := [("errors.errorType", laid_errors_errorType)] }
def StrsTwinsSaid : Prop := strsTwinsRow.holds Tryz.pinned (OpenSpec.ofChange strsTwinsSpec)

/-- ITS FALSE NEIGHBOUR: 'it returns false'. Refute it at one input. -/
def strsTwinsWrong : ChangeSpec := { name := "strsTwins", fn := fun _ => fun
  | [d1, d2] => { results := [.lit (.bool false)], args := [d1, d2] }
  | _ => none }
def StrsTwinsWrongFalsely : Prop := strsTwinsRow.holds Tryz.pinned (OpenSpec.ofChange strsTwinsWrong)

/-- 'tallboylaw21.StrsSets': WHATEVER THE INPUT: true; the input reads as it did. -/
def strsSetsSpec : ChangeSpec := { name := "strsSets", fn := fun _ => fun
  | [d1, d2, d3, d4, d5, d6] => { results := [.lit (.bool true)], args := [d1, d2, d3, d4, d5, d6] }
  | _ => none }
def strsSetsRow : OpenClaim := { program := "ytnajhjmdpaeelaagreatdoor", sum := "478ebbfd01b127e444c5a15542e38f4f1580d18cd91bdd5f9dc364da21a8d97e", func := "tallboy/tallboylaw21.StrsSets", spec := "strsSets", inPlace := ["internal/reflectlite.ValueOf", "(internal/reflectlite.Value).Type", "(internal/reflectlite.Value).IsNil", "internal/reflectlite.TypeOf", "(internal/reflectlite.Value).Elem", "(internal/reflectlite.Value).Set"], unfollowed := true, recurses := true, named := ["errors.errorType"], apart := false, laid := [("errors.errorType", laid_errors_errorType)] }
def StrsSetsSaid : Prop := strsSetsRow.holds Tryz.pinned (OpenSpec.ofChange strsSetsSpec)

/-- ITS FALSE NEIGHBOUR: 'it returns false'. Refute it at one input. -/
def strsSetsWrong : ChangeSpec := { name := "strsSets", fn := fun _ => fun
  | [d1, d2, d3, d4, d5, d6] => { results := [.lit (.bool false)], args := [d1, d2, d3, d4, d5, d6] }
  | _ => none }
def StrsSetsWrongFalsely : Prop := strsSetsRow.holds Tryz.pinned (OpenSpec.ofChange strsSetsWrong)

/-- 'tallboylaw21.StrsKeeps': WHATEVER THE INPUT: true; the input reads as it did. -/
def strsKeepsSpec : ChangeSpec := { name := "strsKeeps", fn := fun _ => fun
  | [d1, d2, d3] => { results := [.lit (.bool true)], args := [d1, d2, d3] }
  | _ => none }
def strsKeepsRow : OpenClaim := { program := "ytnajhjmdpaeelaagreatdoor", sum := "478ebbfd01b127e444c5a15542e38f4f1580d18cd91bdd5f9dc364da21a8d97e", func := "tallboy/tallboylaw21.StrsKeeps", spec := "strsKeeps", inPlace := ["internal/reflectlite.ValueOf", "(internal/reflectlite.Value).Type", "(internal/reflectlite.Value).IsNil", "internal/reflectlite.TypeOf", "(internal/reflectlite.Value).Elem", "(internal/reflectlite.Value).Set"], unfollowed := true, recurses := true, named := ["errors.errorType"], apart := false, laid := [("errors.errorType", laid_errors_errorType)] }
def StrsKeepsSaid : Prop := strsKeepsRow.holds Tryz.pinned (OpenSpec.ofChange strsKeepsSpec)

/-- ITS FALSE NEIGHBOUR: 'it returns false'. Refute it at one input. -/
def strsKeepsWrong : ChangeSpec := { name := "strsKeeps", fn := fun _ => fun
  | [d1, d2, d3] => { results := [.lit (.bool false)], args := [d1, d2, d3] }
  | _ => none }
def StrsKeepsWrongFalsely : Prop := strsKeepsRow.holds Tryz.pinned (OpenSpec.ofChange strsKeepsWrong)

/-- 'tallboylaw21.StrsMany': WHATEVER THE INPUT: true; the input reads as it did. -/
def strsManySpec : ChangeSpec := { name := "strsMany", fn := fun _ => fun
  | [d1, d2] => { results := [.lit (.bool true)], args := [d1, d2] }
  | _ => none }
def strsManyRow : OpenClaim := { program := "ytnajhjmdpaeelaagreatdoor", sum := "478ebbfd01b127e444c5a15542e38f4f1580d18cd91bdd5f9dc364da21a8d97e", func := "tallboy/tallboylaw21.StrsMany", spec := "strsMany", inPlace := ["internal/reflectlite.ValueOf", "(internal/reflectlite.Value).Type", "(internal/reflectlite.Value).IsNil", "internal/reflectlite.TypeOf", "(internal/reflectlite.Value).Elem", "(internal/reflectlite.Value).Set"], unfollowed := true, recurses := true, named := ["errors.errorType"], apart := false, laid := [("errors.errorType", laid_errors_errorType)] }
def StrsManySaid : Prop := strsManyRow.holds Tryz.pinned (OpenSpec.ofChange strsManySpec)

/-- ITS FALSE NEIGHBOUR: 'it returns false'. Refute it at one input. -/
def strsManyWrong : ChangeSpec := { name := "strsMany", fn := fun _ => fun
  | [d1, d2] => { results := [.lit (.bool false)], args := [d1, d2] }
  | _ => none }
def StrsManyWrongFalsely : Prop := strsManyRow.holds Tryz.pinned (OpenSpec.ofChange strsManyWrong)

/- THE SECOND FORM. 'bulk': how many values and letters a reading holds, each counted each time it is reached (what is shared counts as often as it is met; a slice's spare places count too). A statement '..UptoSaid' is the law's where the arguments, and the package variables that the reading takes, are together of bulk at most 1048576: NARROWER than '..Said'. Prove '..Said' where nothing that the law and all that it calls make is longer than what came in: it says more and counts as full. Else prove '..UptoSaid'. A law counts once. -/
mutual
def uptoBulk {H : Type} : DataW H → Nat
  | .lit (.string bytes) => bytes.length + 1
  | .lit _ => 1
  | .nil => 1
  | .ptr d => uptoBulk d + 1
  | .slice elems spare => uptoBulkAll elems + uptoBulkAll spare + 1
  | .agg parts => uptoBulkAll parts + 1
  | .iface _ d => uptoBulk d + 1
  | .map entries => uptoBulkEntries entries + 1
  | .held _ => 1
def uptoBulkAll {H : Type} : List (DataW H) → Nat
  | [] => 0
  | d :: r => uptoBulk d + uptoBulkAll r
def uptoBulkEntries {H : Type} : List (Lit × DataW H) → Nat
  | [] => 0
  | x :: r => uptoBulkEntry x + uptoBulkEntries r
def uptoBulkEntry {H : Type} : Lit × DataW H → Nat
  | (.string bytes, d) => bytes.length + uptoBulk d + 1
  | (_, d) => uptoBulk d + 1
 end
def uptoSmall : (H : Type) → List (DataW H) → Bool := fun _ ds => decide (uptoBulkAll ds ≤ 1048576)
def OpenSpec.upto (s : _root_.Go.ChangeSpec) : _root_.Go.OpenSpec := { _root_.Go.OpenSpec.ofChange s with cond := some uptoSmall }

/-- 'tallboylaw21.StrsTwins', WHERE WHAT IT READS IS OF BULK AT MOST 1048576: true; the input reads as it did. -/
def strsTwinsUptoRow : OpenClaim := { program := "ytnajhjmdpaeelaagreatdoor", sum := "478ebbfd01b127e444c5a15542e38f4f1580d18cd91bdd5f9dc364da21a8d97e", func := "tallboy/tallboylaw21.StrsTwins", spec := "strsTwins", inPlace := ["internal/reflectlite.ValueOf", "(internal/reflectlite.Value).Type", "(internal/reflectlite.Value).IsNil", "internal/reflectlite.TypeOf", "(internal/reflectlite.Value).Elem", "(internal/reflectlite.Value).Set"], unfollowed := true, recurses := true, named := ["errors.errorType"], apart := false, laid := [("errors.errorType", laid_errors_errorType)], narrowed := true }
def StrsTwinsUptoSaid : Prop := strsTwinsUptoRow.holds Tryz.pinned (OpenSpec.upto strsTwinsSpec)

/-- 'tallboylaw21.StrsSets', WHERE WHAT IT READS IS OF BULK AT MOST 1048576: true; the input reads as it did. -/
def strsSetsUptoRow : OpenClaim := { program := "ytnajhjmdpaeelaagreatdoor", sum := "478ebbfd01b127e444c5a15542e38f4f1580d18cd91bdd5f9dc364da21a8d97e", func := "tallboy/tallboylaw21.StrsSets", spec := "strsSets", inPlace := ["internal/reflectlite.ValueOf", "(internal/reflectlite.Value).Type", "(internal/reflectlite.Value).IsNil", "internal/reflectlite.TypeOf", "(internal/reflectlite.Value).Elem", "(internal/reflectlite.Value).Set"], unfollowed := true, recurses := true, named := ["errors.errorType"], apart := false, laid := [("errors.errorType", laid_errors_errorType)], narrowed := true }
def StrsSetsUptoSaid : Prop := strsSetsUptoRow.holds Tryz.pinned (OpenSpec.upto strsSetsSpec)

/-- 'tallboylaw21.StrsKeeps', WHERE WHAT IT READS IS OF BULK AT MOST 1048576: true; the input reads as it did. -/
def strsKeepsUptoRow : OpenClaim := { program := "ytnajhjmdpaeelaagreatdoor", sum := "478ebbfd01b127e444c5a15542e38f4f1580d18cd91bdd5f9dc364da21a8d97e", func := "tallboy/tallboylaw21.StrsKeeps", spec := "strsKeeps", inPlace := ["internal/reflectlite.ValueOf", "(internal/reflectlite.Value).Type", "(internal/reflectlite.Value).IsNil", "internal/reflectlite.TypeOf", "(internal/reflectlite.Value).Elem", "(internal/reflectlite.Value).Set"], unfollowed := true, recurses := true, named := ["errors.errorType"], apart := false, laid := [("errors.errorType", laid_errors_errorType)], narrowed := true }
def StrsKeepsUptoSaid : Prop := strsKeepsUptoRow.holds Tryz.pinned (OpenSpec.upto strsKeepsSpec)

/-- 'tallboylaw21.StrsMany', WHERE WHAT IT READS IS OF BULK AT MOST 1048576: true; the input reads as it did. -/
def strsManyUptoRow : OpenClaim := { program := "ytnajhjmdpaeelaagreatdoor", sum := "478ebbfd01b127e444c5a15542e38f4f1580d18cd91bdd5f9dc364da21a8d97e", func := "tallboy/tallboylaw21.StrsMany", spec := "strsMany", inPlace := ["internal/reflectlite.ValueOf", "(internal/reflectlite.Value).Type", "(internal/reflectlite.Value).IsNil", "internal/reflectlite.TypeOf", "(internal/reflectlite.Value).Elem", "(internal/reflectlite.Value).Set"], unfollowed := true, recurses := true, named := ["errors.errorType"], apart := false, laid := [("errors.errorType", laid_errors_errorType)], narrowed := true }
def StrsManyUptoSaid : Prop := strsManyUptoRow.holds Tryz.pinned (OpenSpec.upto strsManySpec)

end Rows
end Go.Proofs.YtnajhjmdpaeelaaGreatDoor
