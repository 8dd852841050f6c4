/-
  cut, putAhead.
-/
import Derived.Test.YtemiajjjhhofaacAhead
namespace Go.Proofs.Ytemiajjjhhofaac
open Go.RowKit Go.PlainAid

/-- What cut makes: a gap ahead of the i-th text of a node. -/
def CutAt (w : World) (B l R most cnt : Nat) (l1 l2 : List Nd) (d : Nd) (i : Nat) (r : Ending) (w' : World) : Prop :=
  ∃ A C, r = .returned (ptr (laA R A)) ∧ Lst w' B l R most cnt (A ++ C) ∧ Goes w w' l R (l1 ++ d :: l2) (A ++ C) ∧ Ok most (A ++ C) ∧ txN A = txN l1 ++ d.ls.take i ∧ txN C = d.ls.drop i ++ txN l2

end Go.Proofs.Ytemiajjjhhofaac
