/-
  A slice of calls among the arguments, opened for the walk.
-/
import Derived.Test.YtmjeljldmmkcpaaGreatOpC
import Derived.Test.YtmjeljldmmkcpaaGreatG16
namespace Go.Proofs.YtmjeljldmmkcpaaGreat
open Go.ChangeShapes Go.WideShapes Go.ChangeAt Go.RowKit

theorem Tryz.cellsK : Tryz.prog.cellsOf 24 = 6 := by kernel_rfl
theorem Tryz.cellsI2 : Tryz.prog.cellsOf 2 = 1 := by kernel_rfl
theorem Tryz.cellsS9 : Tryz.prog.cellsOf 9 = 1 := by kernel_rfl
set_option maxRecDepth 100000 in
theorem l_of_trod {H : Type} {enc : TypeId × Value → H} {W : World} {a : Option Addr} {len cap : Nat} {d : DataW H} {p : List MemPlace}
    (h : DataW.Trod enc Tryz.prog W 0 (fun _ => true) true 22 (.slice a len cap) d p) : Sq.RdK W a len := by
  obtain ⟨fuel, hf⟩ := h
  rcases Deep.open_slice Tryz.underlying22 hf with ⟨hcs, -⟩ | ⟨a', len', cap', m, n, D, Pl, hcs, hb, hl, hm, hmm, hx, hel⟩
  · simp [Value.cells] at hcs
    obtain ⟨rfl, rfl, rfl⟩ := hcs
    exact ⟨Nat.zero_le _, fun j hj => absurd hj (Nat.not_lt_zero _)⟩
  · simp [Value.cells] at hcs
    obtain ⟨rfl, rfl, rfl⟩ := hcs
    rw [if_pos rfl] at hmm
    refine ⟨Nat.le_trans hl hm, fun j hj => ?_⟩
    obtain ⟨cs', h1, h2⟩ := hel j (by omega)
    rw [Tryz.cellsK] at h1
    obtain ⟨_, hlen, hcell⟩ := World.cells?_some h1
    obtain ⟨xs, k, hk, hxy, _, hxl, hff⟩ := DataW.trod_struct Tryz.underlying24 h2
    match xs, hxl, cs', hlen with
    | [y0, y1, y2, y3, y4, y5], _, [v0, v1, v2, v3, v4, v5], _ =>
      have g0 := hff 0 _ rfl
      have g1 := hff 1 _ rfl
      have g2 := hff 2 _ rfl
      have g3 := hff 3 _ rfl
      have g4 := hff 4 _ rfl
      have g5 := hff 5 _ rfl
      simp [Tryz.cellsI3, Tryz.cellsI2, Tryz.cellsS9] at g0 g1 g2 g3 g4 g5
      have e0 := hcell 0 (by omega)
      have e1 := hcell 1 (by omega)
      have e2 := hcell 2 (by omega)
      have e3 := hcell 3 (by omega)
      have e4 := hcell 4 (by omega)
      have e5 := hcell 5 (by omega)
      rw [Deep.add_add] at e0 e1 e2 e3 e4 e5
      obtain ⟨z0, hz0, -, -⟩ := DataW.trod_int Tryz.underlying3 g0
      obtain ⟨z1, hz1, -, -⟩ := DataW.trod_int Tryz.underlying3 g1
      obtain ⟨z2, hz2, -, -⟩ := DataW.trod_int Tryz.underlying3 g2
      obtain ⟨z3, hz3, -, -⟩ := DataW.trod_int Tryz.underlying2 g3
      obtain ⟨z4, hz4, -, -⟩ := DataW.trod_int Tryz.underlying2 g4
      obtain ⟨z5, hz5, -, -⟩ := DataW.trod_string Tryz.underlying9 g5
      simp at hz0 hz1 hz2 hz3 hz4 hz5
      subst hz0 hz1 hz2 hz3 hz4 hz5
      obtain ⟨b, off, spot⟩ := a'
      have hspot : spot = none := by
        obtain ⟨cs0, k1, -⟩ := hel 0 (by omega)
        rw [Tryz.cellsK] at k1
        obtain ⟨_, hlen0, hcell0⟩ := World.cells?_some k1
        have h0 := hcell0 0 (by omega)
        rw [List.getElem?_eq_getElem (by omega)] at h0
        simpa [Addr.add] using World.cell?_spot h0
      subst hspot
      refine ⟨b, off, z0, z1, z2, z3, z4, z5, rfl, ?_, ?_, ?_, ?_, ?_, ?_⟩
      · rw [add_plain] at e0; simpa using e0
      · rw [add_plain] at e1; simpa [Nat.add_assoc] using e1
      · rw [add_plain] at e2; simpa [Nat.add_assoc] using e2
      · rw [add_plain] at e3; simpa [Nat.add_assoc] using e3
      · rw [add_plain] at e4; simpa [Nat.add_assoc] using e4
      · rw [add_plain] at e5; simpa [Nat.add_assoc] using e5
end Go.Proofs.YtmjeljldmmkcpaaGreat
