/-
  Slices of bytes and of numbers among the arguments, opened for the walk.
-/
import Derived.Test.YtbmcnbhceogcjaaLawEnd
import Derived.Test.YtbmcnbhceogcjaaClasses
import Derived.ChangeSlices
namespace Go.Proofs.Ytbmcnbhceogcjaa
open Go.ChangeShapes Go.WideShapes Go.ChangeAt Go.RowKit

theorem Try.cells5 : Try.prog.cellsOf 5 = 1 := by kernel_rfl
theorem Try.cells3 : Try.prog.cellsOf 3 = 1 := by kernel_rfl

/-- A row of numbers among the arguments. -/
def Ints (w : World) (a : Option Addr) (len : Nat) (z : Nat → Int) : Prop :=
  len ≤ maxLen ∧ ∀ i, i < len → ∃ b off, a = some ⟨b, off, none⟩ ∧ w.cell? ⟨b, off + i, none⟩ = some (.int .i64 (z i))
theorem Ints.keep {w wn : World} {a : Option Addr} {len : Nat} {z : Nat → Int} (h : Ints w a len z) (hb : Below w.heap.size w wn) : Ints wn a len z :=
  ⟨h.1, fun i hi => by
    obtain ⟨b, off, e, hc⟩ := h.2 i hi
    exact ⟨b, off, e, by rw [hb.cell (p := ⟨b, off + i, none⟩) (World.block_lt_of_cell? _ _ hc)]; exact hc⟩⟩

theorem row_of_trod {H : Type} {enc : TypeId × Value → H} {W : World} {t e : TypeId} {kk : IntKind} (ht : Try.prog.underlying t = some (.slice e)) (he : Try.prog.underlying e = some (.int kk)) (hce : Try.prog.cellsOf e = 1)
    {a : Option Addr} {len cap : Nat} {d : DataW H} {p : List MemPlace}
    (h : DataW.Trod enc Try.prog W 0 (fun _ => true) true t (.slice a len cap) d p) : len ≤ maxLen ∧ ∃ z : Nat → Int, ∀ i, i < len → (Lit.int kk (z i)).wf = true ∧ ∃ b off, a = some ⟨b, off, none⟩ ∧ W.cell? ⟨b, off + i, none⟩ = some (.int kk (z i)) := by
  obtain ⟨fuel, hf⟩ := h
  rcases open_ints ht he hce hf with ⟨hcs, hx⟩ | ⟨a', len', cap', zs, hcs, _, hl, hm, hz, hx, hcell, hws⟩
  · simp [Value.cells] at hcs
    obtain ⟨rfl, rfl, rfl⟩ := hcs
    exact ⟨Nat.zero_le _, fun _ => 0, fun i hi => absurd hi (Nat.not_lt_zero _)⟩
  · simp [Value.cells] at hcs
    obtain ⟨rfl, rfl, rfl⟩ := hcs
    refine ⟨Nat.le_trans hl hm, fun i => zs.getD i 0, fun i hi => ?_⟩
    have hz' : zs.length = cap := by simpa using hz
    have hc := hcell i (by omega)
    obtain ⟨b, off, spot⟩ := a'
    have hspot : spot = none := by
      have h0 := hcell 0 (by omega)
      simpa [Addr.add] using World.cell?_spot h0
    subst hspot
    refine ⟨?_, b, off, rfl, by rw [← Go.WideShapes.add_plain]; exact hc⟩
    apply hws
    show zs.getD i 0 ∈ zs
    rw [List.getD_eq_getElem?_getD, List.getElem?_eq_getElem (by omega)]
    simp

theorem bytes_of_trod {H : Type} {enc : TypeId × Value → H} {W : World} {a : Option Addr} {len cap : Nat} {d : DataW H} {p : List MemPlace}
    (h : DataW.Trod enc Try.prog W 0 (fun _ => true) true 30 (.slice a len cap) d p) : ∃ f, Bytes W a len f := by
  obtain ⟨hl, z, hz⟩ := row_of_trod Try.underlying30 Try.underlying5 Try.cells5 h
  refine ⟨fun i => UInt8.ofNat (z i).toNat, hl, fun i hi => ?_⟩
  obtain ⟨hw, b, off, e, hc⟩ := hz i hi
  have hb : 0 ≤ z i ∧ z i ≤ 255 := by simpa [Lit.wf, IntKind.min, IntKind.max, IntKind.bits, IntKind.signed] using hw
  refine ⟨b, off, e, ?_⟩
  have : ((UInt8.ofNat (z i).toNat).toNat : Int) = z i := by rw [UInt8.toNat_ofNat']; omega
  rw [hc, this]
theorem ints_of_trod {H : Type} {enc : TypeId × Value → H} {W : World} {a : Option Addr} {len cap : Nat} {d : DataW H} {p : List MemPlace}
    (h : DataW.Trod enc Try.prog W 0 (fun _ => true) true 26 (.slice a len cap) d p) : ∃ z, Ints W a len z := by
  obtain ⟨hl, z, hz⟩ := row_of_trod Try.underlying26 Try.underlying3 Try.cells3 h
  refine ⟨z, hl, fun i hi => ?_⟩
  obtain ⟨-, b, off, e, hc⟩ := hz i hi
  exact ⟨b, off, e, hc⟩
end Go.Proofs.Ytbmcnbhceogcjaa
