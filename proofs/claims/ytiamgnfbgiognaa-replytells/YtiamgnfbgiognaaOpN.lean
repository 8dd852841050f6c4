/-
  A slice of nodes among the arguments, opened for the walk.
-/
import Derived.Test.YtiamgnfbgiognaaLawEnd
import Derived.Test.YtiamgnfbgiognaaSl
import Derived.Deep.SlicePairs
namespace Go.Proofs.Ytiamgnfbgiognaa
open Go.ChangeShapes Go.WideShapes Go.ChangeAt Go.RowKit

theorem Try.cellsN : Try.prog.cellsOf 37 = 4 := by kernel_rfl
theorem Try.cellsI3 : Try.prog.cellsOf 3 = 1 := by kernel_rfl
theorem Try.cellsI2 : Try.prog.cellsOf 2 = 1 := by kernel_rfl
theorem Try.cellsS9 : Try.prog.cellsOf 9 = 1 := by kernel_rfl
set_option maxRecDepth 100000 in
theorem a_of_trod {H : Type} {enc : TypeId × Value → H} {W : World} {a : Option Addr} {len cap : Nat} {d : DataW H} {p : List MemPlace}
    (h : DataW.Trod enc Try.prog W 0 (fun _ => true) true 22 (.slice a len cap) d p) : NdR W a len := by
  obtain ⟨fuel, hf⟩ := h
  rcases Deep.open_slice Try.underlying22 hf with ⟨hcs, -⟩ | ⟨a', len', cap', m, n, D, Pl, hcs, hb, hl, hm, hmm, hx, hel⟩
  · simp [Value.cells] at hcs
    obtain ⟨rfl, rfl, rfl⟩ := hcs
    exact ⟨Nat.zero_le _, fun j hj => absurd hj (Nat.not_lt_zero _)⟩
  · simp [Value.cells] at hcs
    obtain ⟨rfl, rfl, rfl⟩ := hcs
    rw [if_pos rfl] at hmm
    refine ⟨Nat.le_trans hl hm, fun j hj => ?_⟩
    obtain ⟨cs', h1, h2⟩ := hel j (by omega)
    rw [Try.cellsN] at h1
    obtain ⟨_, hlen, hcell⟩ := World.cells?_some h1
    obtain ⟨xs, k, hk, hxy, _, hxl, hff⟩ := DataW.trod_struct Try.underlying37 h2
    match xs, hxl, cs', hlen with
    | [y0, y1, y2, y3], _, [v0, v1, v2, v3], _ =>
      have g0 := hff 0 _ rfl
      have g1 := hff 1 _ rfl
      have g2 := hff 2 _ rfl
      have g3 := hff 3 _ rfl
      simp [Try.cellsI3, Try.cellsI2, Try.cellsS9] at g0 g1 g2 g3
      have e0 := hcell 0 (by omega)
      have e1 := hcell 1 (by omega)
      have e2 := hcell 2 (by omega)
      have e3 := hcell 3 (by omega)
      rw [Deep.add_add] at e0 e1 e2 e3
      obtain ⟨z0, hz0, -, -⟩ := DataW.trod_int Try.underlying3 g0
      obtain ⟨z1, hz1, -, -⟩ := DataW.trod_int Try.underlying3 g1
      obtain ⟨z2, hz2, -, -⟩ := DataW.trod_int Try.underlying2 g2
      obtain ⟨z3, hz3, -, -⟩ := DataW.trod_string Try.underlying9 g3
      simp at hz0 hz1 hz2 hz3
      subst hz0 hz1 hz2 hz3
      obtain ⟨b, off, spot⟩ := a'
      have hspot : spot = none := by
        obtain ⟨cs0, k1, -⟩ := hel 0 (by omega)
        rw [Try.cellsN] at k1
        obtain ⟨_, hlen0, hcell0⟩ := World.cells?_some k1
        have h0 := hcell0 0 (by omega)
        rw [List.getElem?_eq_getElem (by omega)] at h0
        simpa [Addr.add] using World.cell?_spot h0
      subst hspot
      refine ⟨b, off, z0, z1, z2, z3, rfl, ?_, ?_, ?_, ?_⟩
      · rw [add_flat] at e0; simpa using e0
      · rw [add_flat] at e1; simpa [Nat.add_assoc] using e1
      · rw [add_flat] at e2; simpa [Nat.add_assoc] using e2
      · rw [add_flat] at e3; simpa [Nat.add_assoc] using e3
theorem b_of_trod {H : Type} {enc : TypeId × Value → H} {W : World} {a : Option Addr} {len cap : Nat} {d : DataW H} {p : List MemPlace}
    (h : DataW.Trod enc Try.prog W 0 (fun _ => true) true 22 (.slice a len cap) d p) : NdR W a len := a_of_trod h
end Go.Proofs.Ytiamgnfbgiognaa
