/-
  The document's own Parse.
-/
import Derived.Test.YtlapiaoopmhogaaDoorRef
namespace Go.Proofs.YtlapiaoopmhogaaDoor
open Go.RowKit Go.PlainAid

theorem wrap64_in (n : Int) : -9223372036854775808 ≤ wrap64 n ∧ wrap64 n < 9223372036854775808 := by unfold wrap64; omega

theorem toList_beq (a b : ByteArray) : (a.toList == b.toList) = decide (a = b) := by
  rw [ByteArray.toList_eq, ByteArray.toList_eq]
  by_cases h : a = b
  · rw [decide_eq_true h, h]; simp
  · rw [decide_eq_false h, beq_eq_false_iff_ne]
    intro e
    exact h (by rw [← bs_lst a, ← bs_lst b]; exact congrArg bs e)

theorem cursorL_lt {l : List UInt8} {n : Nat} (h : cursorL l = some n) : n < 18446744073709551616 := by
  unfold cursorL at h
  split at h
  · cases h
  · exact digitsL_lt h

end Go.Proofs.YtlapiaoopmhogaaDoor
