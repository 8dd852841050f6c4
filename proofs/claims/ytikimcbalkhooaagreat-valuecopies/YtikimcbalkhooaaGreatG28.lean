/- Texts that the others stand on. -/
import Derived.Test.YtikimcbalkhooaaGreatG24
import Derived.Test.YtikimcbalkhooaaGreatG25
import Derived.Test.YtikimcbalkhooaaGreatG26
import Derived.Test.YtikimcbalkhooaaGreatG27
namespace Go.Proofs.YtikimcbalkhooaaGreat
open Go.RowKit Go.PlainAid
open Dk (En keysOf hasK putE ecells)
theorem Vl.shape {w : World} {B : Nat} {d : VD} {va : Value} (h : Vl w B d va) : ∃ t a n c a' n' c', va = .agg #[.int .i64 (d.kind : Nat), .string t, .slice a n c, .slice a' n' c'] := by
 cases d with
 | txt t => exact ⟨t, none, 0, 0, none, 0, 0, h⟩
 | hsh es => obtain ⟨a, n, c, h1, -⟩ := h; exact ⟨⟨#[]⟩, a, n, c, none, 0, 0, h1⟩
 | set l => obtain ⟨a, n, c, h1, -⟩ := h; exact ⟨⟨#[]⟩, none, 0, 0, a, n, c, h1⟩
 | lst l => obtain ⟨a, n, c, h1, -⟩ := h; exact ⟨⟨#[]⟩, none, 0, 0, a, n, c, h1⟩
theorem tellsV_any (B C v : Nat) (d : VD) (one : Bool) (F : List Nat) (va : Value) (le lt : Int) (w : World) (h : PV w B v d one F) (hV : Vl w C d va) (hok : d.ok) :
  Calls Tryz.prog 9 #[ptr v, va, .agg #[.int .i64 le, .int .i64 lt]] w fun e w' => e = .returned (.bool true) ∧ Below w.heap.size w w' := by
 cases d with
 | txt t => rw [show va = _ from hV]; exact tells_t B v one F t le lt w h hok
 | hsh es => obtain ⟨a, n, c, rfl, hO⟩ := hV; exact tells_h B v one F C a n c es le lt w h hO hok
 | set l => obtain ⟨a, n, c, rfl, hO⟩ := hV; exact tells_s B v one F C a n c l le lt w h hO hok
 | lst l => obtain ⟨a, n, c, rfl, hO⟩ := hV; exact tells_l B v one F C a n c l le lt w h hO hok
end Go.Proofs.YtikimcbalkhooaaGreat
