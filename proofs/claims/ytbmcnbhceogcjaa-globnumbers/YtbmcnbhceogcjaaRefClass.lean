/-
  The document's own class.
-/
import Derived.Test.YtbmcnbhceogcjaaRefClassA
import Derived.Test.YtbmcnbhceogcjaaRefClassB
import Derived.Test.YtbmcnbhceogcjaaRefClassC
namespace Go.Proofs.Ytbmcnbhceogcjaa
open Go.RowKit Go.PlainAid

theorem refClass_any (s : ByteArray) (b : Nat) (w : World) (hs : s.size ≤ maxLen) :
    Calls Try.prog 19 #[.string s, .int .u8 b] w fun e w' => Below w.heap.size w w' ∧ e = .returned (rclsR (cls b (lst s))) := by
  by_cases h0 : 0 < s.size
  · by_cases hc : ((s[0]'h0).toNat : Int) = 94
    · exact refClassNot s b w hs h0 hc
    · exact refClassYes s b w hs h0 _ rfl hc
  · exact refClassNil s b w hs h0
end Go.Proofs.Ytbmcnbhceogcjaa
