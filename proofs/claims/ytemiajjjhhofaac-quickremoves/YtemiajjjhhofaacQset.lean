/-
  Set, Insert, Nodes of a list.
-/
import Derived.Test.YtemiajjjhhofaacQread
import Derived.Test.YtemiajjjhhofaacPkF
import Derived.Test.YtemiajjjhhofaacInts
namespace Go.Proofs.Ytemiajjjhhofaac
open Go.RowKit Go.PlainAid

theorem set_mid {l1 l2 : List Nd} {d : Nd} {j k : Nat} (s : ByteArray) (hk : (txN l1).length + j = k) (hj : j < d.ls.length) : txN l1 ++ (d.ls.set j s ++ txN l2) = (txN (l1 ++ d :: l2)).set k s := by
  rw [txN_append, txN_cons, List.set_append_right _ _ (by omega), List.set_append_left _ _ (by omega), show k - (txN l1).length = j by omega]

theorem pack_le {ls : List ByteArray} (h : Fit ls) (h1 : ls.length ≤ 1) : (pack ls).length ≤ 5000 := by
  match ls, h1 with
  | [], _ => exact Nat.zero_le _
  | [s], _ => rw [pack_one]; exact (enc_le s (h s (by simp))).2

end Go.Proofs.Ytemiajjjhhofaac
