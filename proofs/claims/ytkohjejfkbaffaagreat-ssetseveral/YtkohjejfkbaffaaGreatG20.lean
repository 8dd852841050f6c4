/-
  A slice of calls among the arguments, opened for the walk.
-/
import Derived.Test.YtkohjejfkbaffaaGreatLawEnd
import Derived.Test.YtkohjejfkbaffaaGreatG19
import Derived.ChangeSlices
import Derived.SliceStrings
import Derived.Deep.SlicePairs
namespace Go.Proofs.YtkohjejfkbaffaaGreat
open Go.ChangeShapes Go.WideShapes Go.ChangeAt Go.RowKit

theorem Tryz.cellsK25 : Tryz.prog.cellsOf 25 = 3 := by kernel_rfl
theorem Tryz.cellsK3 : Tryz.prog.cellsOf 3 = 1 := by kernel_rfl
theorem Tryz.cellsK9 : Tryz.prog.cellsOf 9 = 1 := by kernel_rfl

set_option maxRecDepth 100000 in
theorem asks_of_trod {H : Type} {enc : TypeId × Value → H} {W : World} {a : Option Addr} {len cap : Nat} {d : DataW H} {p : List MemPlace}
    (h : DataW.Trod enc Tryz.prog W 0 (fun _ => true) true 22 (.slice a len cap) d p) : RdK W a len := by
  obtain ⟨fuel, hf⟩ := h
  rcases Deep.open_slice Tryz.underlying22 hf with ⟨hcs, -⟩ | ⟨a', len', cap', m, n, D, Pl, hcs, hb, hl, hm, hmm, hx, hel⟩
  · simp [Value.cells] at hcs
    obtain ⟨rfl, rfl, rfl⟩ := hcs
    exact ⟨Nat.zero_le _, fun j hj => absurd hj (Nat.not_lt_zero _)⟩
  · simp [Value.cells] at hcs
    obtain ⟨rfl, rfl, rfl⟩ := hcs
    rw [if_pos rfl] at hmm
    refine ⟨Nat.le_trans hl hm, fun j hj => ?_⟩
    obtain ⟨cs', h1, h2⟩ := hel j (by omega)
    rw [Tryz.cellsK25] at h1
    obtain ⟨_, hlen, hcell⟩ := World.cells?_some h1
    obtain ⟨xs, k, hk, hxy, _, hxl, hff⟩ := DataW.trod_struct Tryz.underlying25 h2
    match xs, hxl, cs', hlen with
    | [y0, y1, y2], _, [v0, v1, v2], _ =>
      have g0 := hff 0 _ rfl
      have g1 := hff 1 _ rfl
      have g2 := hff 2 _ rfl
      simp [Tryz.cellsK3, Tryz.cellsK9] at g0 g1 g2
      have e0 := hcell 0 (by omega)
      have e1 := hcell 1 (by omega)
      have e2 := hcell 2 (by omega)
      rw [Deep.add_add] at e0 e1 e2
      obtain ⟨z0, hz0, -, -⟩ := DataW.trod_int Tryz.underlying3 g0
      obtain ⟨z1, hz1, -, -⟩ := DataW.trod_int Tryz.underlying3 g1
      obtain ⟨z2, hz2, -, -⟩ := DataW.trod_string Tryz.underlying9 g2
      simp at hz0 hz1 hz2
      subst hz0 hz1 hz2
      obtain ⟨b, off, spot⟩ := a'
      have hspot : spot = none := by
        obtain ⟨cs0, k1, -⟩ := hel 0 (by omega)
        rw [Tryz.cellsK25] at k1
        obtain ⟨_, hlen0, hcell0⟩ := World.cells?_some k1
        have h0 := hcell0 0 (by omega)
        rw [List.getElem?_eq_getElem (by omega)] at h0
        simpa [Addr.add] using World.cell?_spot h0
      subst hspot
      refine ⟨b, off, rfl, z0, z1, z2, ?_, ?_, ?_⟩
      · rw [add_plain] at e0; simpa using e0
      · rw [add_plain] at e1; simpa [Nat.add_assoc] using e1
      · rw [add_plain] at e2; simpa [Nat.add_assoc] using e2
end Go.Proofs.YtkohjejfkbaffaaGreat
