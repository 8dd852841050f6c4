/-
  A slice of words among the arguments, opened for the walk.
-/
import Derived.Test.YtkohjejfkbaffaaGreatLawEnd
import Derived.Test.YtkohjejfkbaffaaGreatPicks
import Derived.ChangeSlices
namespace Go.Proofs.YtkohjejfkbaffaaGreat
open Go.ChangeShapes Go.WideShapes Go.ChangeAt Go.RowKit

theorem Tryz.cellsU31 : Tryz.prog.cellsOf 31 = 1 := by kernel_rfl
theorem u64s_of_trod {H : Type} {enc : TypeId × Value → H} {W : World} {a : Option Addr} {len cap : Nat} {d : DataW H} {p : List MemPlace}
    (h : DataW.Trod enc Tryz.prog W 0 (fun _ => true) true 55 (.slice a len cap) d p) : ∃ z, RdU W a len z := by
  obtain ⟨fuel, hf⟩ := h
  rcases open_ints Tryz.underlying55 Tryz.underlying31 Tryz.cellsU31 hf with ⟨hcs, hx⟩ | ⟨a', len', cap', zs, hcs, _, hl, hm, hz, hx, hcell, hws⟩
  · simp [Value.cells] at hcs
    obtain ⟨rfl, rfl, rfl⟩ := hcs
    exact ⟨fun _ => 0, Nat.zero_le _, fun i hi => absurd hi (Nat.not_lt_zero _)⟩
  · simp [Value.cells] at hcs
    obtain ⟨rfl, rfl, rfl⟩ := hcs
    refine ⟨fun i => (zs.getD i 0).toNat, Nat.le_trans hl hm, fun i hi => ?_⟩
    have hz' : zs.length = cap := by simpa using hz
    have hc := hcell i (by omega)
    obtain ⟨b, off, spot⟩ := a'
    have hspot : spot = none := by
      have h0 := hcell 0 (by omega)
      simpa [Addr.add] using World.cell?_spot h0
    subst hspot
    have hw : (Lit.int IntKind.u64 (zs.getD i 0)).wf = true := by
      apply hws
      rw [List.getD_eq_getElem?_getD, List.getElem?_eq_getElem (by omega)]
      simp
    have hb : 0 ≤ zs.getD i 0 ∧ zs.getD i 0 ≤ 18446744073709551615 := by simpa [Lit.wf, IntKind.min, IntKind.max, IntKind.bits, IntKind.signed] using hw
    refine ⟨b, off, rfl, ?_, by omega⟩
    rw [← Go.WideShapes.add_plain, hc, Int.toNat_of_nonneg hb.1]
end Go.Proofs.YtkohjejfkbaffaaGreat
