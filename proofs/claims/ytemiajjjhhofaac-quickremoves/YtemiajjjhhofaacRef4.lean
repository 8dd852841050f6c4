/-
  The document's own Encode: body, Encode, Bytes.
-/
import Derived.Test.YtemiajjjhhofaacEnc
namespace Go.Proofs.Ytemiajjjhhofaac
open Go.RowKit Go.PlainAid

theorem Rd.two (w : World) (x y : Int) (b c : UInt8) (h : (b.toNat : Int) = x) (h' : (c.toNat : Int) = y) : Rd (w.alloc (.cells #[.int .u8 x, .int .u8 y] 5)) (some ⟨w.heap.size, 0, none⟩) 2 2 [b, c] := by
  have := (Own.made w [b, c] w.heap.size 2 rfl (Nat.le_refl _) (by decide)).rd
  rw [show cells [b, c] = [.int .u8 x, .int .u8 y] by simp [cells, h, h']] at this
  exact this

end Go.Proofs.Ytemiajjjhhofaac
