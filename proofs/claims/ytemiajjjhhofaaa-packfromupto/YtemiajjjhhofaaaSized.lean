/-
  How long a slice of bytes among the arguments can be: the reach of the reading.
-/
import Derived.Test.YtemiajjjhhofaaaOpen
import Derived.SizedLaws
namespace Go.Proofs.Ytemiajjjhhofaaa
open Go.ChangeShapes Go.WideShapes Go.ChangeAt Go.RowKit

theorem Try.bytes5 : Try.prog.bytesOf 5 = 1 := by kernel_rfl

theorem lits_length {H : Type} (k : IntKind) (zs : List Int) : (lits (H := H) k zs).length = zs.length := by simp [lits]

theorem room_of_trod {H : Type} {enc : TypeId × Value → H} {W : World} {a : Option Addr} {len cap : Nat} {d : DataW H} {p : List MemPlace} {ts : List TypeId} {ds : List (DataW H)} {j : Nat}
    (h : DataW.Trod enc Try.prog W 0 (fun _ => true) true 30 (.slice a len cap) d p) (hsz : (DataW.weightsEach Try.prog ts ds).all (· ≤ reachBytes) = true) (ht : ts[j]? = some 30) (hd : ds[j]? = some d) : len ≤ 140737488355328 := by
  obtain ⟨fuel, hf⟩ := h
  rcases open_ints Try.underlying30 Try.underlying5 Try.cells5 hf with ⟨hcs, hx⟩ | ⟨a', len', cap', zs, hcs, _, hl, hm, hz, hx, hcell, hws⟩
  · simp [Value.cells] at hcs
    obtain ⟨rfl, rfl, rfl⟩ := hcs
    exact Nat.zero_le _
  · simp [Value.cells] at hcs
    obtain ⟨rfl, rfl, rfl⟩ := hcs
    have hz' : zs.length = cap := by simpa using hz
    obtain ⟨rfl, -⟩ := Prod.mk.inj hx
    have h1 := sized_slice hsz ht hd Try.underlying30
    rw [Try.bytes5, Nat.mul_one, lits_length, lits_length, List.length_take, List.length_drop] at h1
    have h2 := reachBytes_lt
    omega
end Go.Proofs.Ytemiajjjhhofaaa
