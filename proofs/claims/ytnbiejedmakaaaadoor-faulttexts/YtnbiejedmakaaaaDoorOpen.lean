/-
  A slice of strings among the arguments, opened for the walk.
-/
import Derived.Test.YtnbiejedmakaaaaDoorLawEnd
import Derived.Test.YtnbiejedmakaaaaDoorKnown
import Derived.SliceStrings
namespace Go.Proofs.YtnbiejedmakaaaaDoor
open Go.ChangeShapes Go.WideShapes Go.ChangeAt Go.RowKit

theorem Tryd.cells9 : Tryd.prog.cellsOf 9 = 1 := by kernel_rfl

/-- A slice of strings among the arguments, opened for the walk. -/
theorem strs_of_trod {H : Type} {enc : TypeId × Value → H} {W : World} {a : Option Addr} {len cap : Nat} {d : DataW H} {p : List MemPlace}
    (h : DataW.Trod enc Tryd.prog W 0 (fun _ => true) true 23 (.slice a len cap) d p) : Strs W a len := by
  obtain ⟨fuel, hf⟩ := h
  rcases open_strings Tryd.underlying23 Tryd.underlying9 Tryd.cells9 hf with ⟨hcs, hx⟩ | ⟨a', len', cap', ss, hcs, _, hl, hm, hz, hx, hcell, hws⟩
  · simp [Value.cells] at hcs
    obtain ⟨rfl, rfl, rfl⟩ := hcs
    exact ⟨Nat.zero_le _, fun i hi => absurd hi (Nat.not_lt_zero _)⟩
  · simp [Value.cells] at hcs
    obtain ⟨rfl, rfl, rfl⟩ := hcs
    refine ⟨Nat.le_trans hl hm, fun i hi => ?_⟩
    have hz' : ss.length = cap := by simpa using hz
    have hc := hcell i (by omega)
    have hs : (ss.getD i ByteArray.empty).size ≤ maxLen := by
      apply hws
      rw [List.getD_eq_getElem?_getD, List.getElem?_eq_getElem (by omega)]
      simp
    obtain ⟨b, off, spot⟩ := a'
    have hspot : spot = none := by
      have h0 := hcell 0 (by omega)
      simpa [Addr.add] using World.cell?_spot h0
    subst hspot
    exact ⟨b, off, _, rfl, by rw [← Go.WideShapes.add_plain]; exact hc, hs⟩

end Go.Proofs.YtnbiejedmakaaaaDoor
