/-
  A Config, and a slice of numbers, among the arguments, opened for the walk.
-/
import Derived.Test.YtmjeljldmmkcpaaGreatLawEnd
import Derived.Test.YtmjeljldmmkcpaaGreatRn
import Derived.ChangeSlices
import Derived.SliceStrings
import Derived.Deep.SlicePairs
namespace Go.Proofs.YtmjeljldmmkcpaaGreat
open Go.ChangeShapes Go.WideShapes Go.ChangeAt Go.RowKit

theorem Tryz.cellsC : Tryz.prog.cellsOf 31 = 3 := by kernel_rfl
theorem Tryz.cellsL : Tryz.prog.cellsOf 29 = 2 := by kernel_rfl
theorem Tryz.cellsU : Tryz.prog.cellsOf 27 = 1 := by kernel_rfl
theorem Tryz.cellsI3 : Tryz.prog.cellsOf 3 = 1 := by kernel_rfl
theorem ints_of_trod {H : Type} {enc : TypeId × Value → H} {W : World} {a : Option Addr} {len cap : Nat} {d : DataW H} {p : List MemPlace}
    (h : DataW.Trod enc Tryz.prog W 0 (fun _ => true) true 46 (.slice a len cap) d p) : ∃ z, Sq.RdZ W a len z := by
  obtain ⟨fuel, hf⟩ := h
  rcases open_ints Tryz.underlying46 Tryz.underlying3 Tryz.cellsI3 hf with ⟨hcs, hx⟩ | ⟨a', len', cap', zs, hcs, _, hl, hm, hz, hx, hcell, hws⟩
  · simp [Value.cells] at hcs
    obtain ⟨rfl, rfl, rfl⟩ := hcs
    exact ⟨fun _ => 0, Nat.zero_le _, fun i hi => absurd hi (Nat.not_lt_zero _)⟩
  · simp [Value.cells] at hcs
    obtain ⟨rfl, rfl, rfl⟩ := hcs
    refine ⟨fun i => zs.getD i 0, Nat.le_trans hl hm, fun i hi => ?_⟩
    have hz' : zs.length = cap := by simpa using hz
    have hc := hcell i (by omega)
    obtain ⟨b, off, spot⟩ := a'
    have hspot : spot = none := by
      have h0 := hcell 0 (by omega)
      simpa [Addr.add] using World.cell?_spot h0
    subst hspot
    exact ⟨b, off, rfl, by rw [← Go.WideShapes.add_plain]; exact hc⟩
set_option maxRecDepth 100000 in
theorem cfg_of_trod {H : Type} {enc : TypeId × Value → H} {W : World} {v : Value} {r : Reach} {base : Nat} {d : DataW H} {p : List MemPlace}
    (hv : Value.okWide Tryz.prog W r base 31 v) (h : DataW.Trod enc Tryz.prog W 0 (fun _ => true) true 31 v d p) : ∃ (x : Nat) (E T : Int), x < 18446744073709551616 ∧ v = .agg #[.int .u64 (x : Nat), .int .i64 E, .int .i64 T] := by
  obtain ⟨cs, rfl, hs⟩ := okWide_struct Tryz.underlying31 hv
  rw [Tryz.cellsC] at hs
  obtain ⟨fuel, hf⟩ := h
  obtain ⟨xs, k, hk, hxy, _, hxl, hff⟩ := DataW.trod_struct Tryz.underlying31 hf
  obtain ⟨l⟩ := cs
  match l, hs with
  | [v0, v1, v2], _ =>
    match xs, hxl with
    | [y0, y1], _ =>
      have g0 := hff 0 _ rfl
      have g1 := hff 1 _ rfl
      simp [Tryz.cellsU, Tryz.cellsL, Value.cells] at g0 g1
      obtain ⟨z0, hz0, -, hw0⟩ := DataW.trod_int Tryz.underlying27 g0
      obtain ⟨xs', k', hk', hxy', _, hxl', hff'⟩ := DataW.trod_struct Tryz.underlying29 g1
      match xs', hxl' with
      | [y2, y3], _ =>
        have g2 := hff' 0 _ rfl
        have g3 := hff' 1 _ rfl
        simp [Tryz.cellsI3] at g2 g3
        obtain ⟨z1, hz1, -, -⟩ := DataW.trod_int Tryz.underlying3 g2
        obtain ⟨z2, hz2, -, -⟩ := DataW.trod_int Tryz.underlying3 g3
        simp at hz0 hz1 hz2
        subst hz0 hz1 hz2
        replace hw0 : 0 ≤ z0 ∧ z0 ≤ 18446744073709551615 := by simpa [Lit.wf, IntKind.min, IntKind.max, IntKind.bits, IntKind.signed] using hw0
        obtain ⟨x, rfl⟩ : ∃ m : Nat, z0 = (m : Int) := ⟨z0.toNat, by omega⟩
        exact ⟨x, z1, z2, by omega, rfl⟩
end Go.Proofs.YtmjeljldmmkcpaaGreat
