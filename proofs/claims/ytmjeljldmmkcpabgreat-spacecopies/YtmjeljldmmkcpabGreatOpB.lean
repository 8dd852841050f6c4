/-
  A Config among the arguments, opened for the walk.
-/
import Derived.Test.YtmjeljldmmkcpabGreatLawEnd
import Derived.Test.YtmjeljldmmkcpabGreatOpen
import Derived.Test.YtmjeljldmmkcpabGreatCs
import Derived.ChangeSlices
import Derived.SliceStrings
import Derived.Deep.SlicePairs
namespace Go.Proofs.YtmjeljldmmkcpabGreat
open Go.ChangeShapes Go.WideShapes Go.ChangeAt Go.RowKit

theorem Tryz.cellsC : Tryz.prog.cellsOf 26 = 3 := by kernel_rfl
theorem Tryz.cellsL : Tryz.prog.cellsOf 24 = 2 := by kernel_rfl
theorem Tryz.cellsU : Tryz.prog.cellsOf 22 = 1 := by kernel_rfl
theorem Tryz.cellsI3 : Tryz.prog.cellsOf 3 = 1 := by kernel_rfl
set_option maxRecDepth 100000 in
theorem cfg_of_trod {H : Type} {enc : TypeId × Value → H} {W : World} {v : Value} {r : Reach} {base : Nat} {d : DataW H} {p : List MemPlace}
    (hv : Value.okWide Tryz.prog W r base 26 v) (h : DataW.Trod enc Tryz.prog W 0 (fun _ => true) true 26 v d p) : ∃ (x : Nat) (E T : Int), x < 18446744073709551616 ∧ v = .agg #[.int .u64 (x : Nat), .int .i64 E, .int .i64 T] := by
  obtain ⟨cs, rfl, hs⟩ := okWide_struct Tryz.underlying26 hv
  rw [Tryz.cellsC] at hs
  obtain ⟨fuel, hf⟩ := h
  obtain ⟨xs, k, hk, hxy, _, hxl, hff⟩ := DataW.trod_struct Tryz.underlying26 hf
  obtain ⟨l⟩ := cs
  match l, hs with
  | [v0, v1, v2], _ =>
    match xs, hxl with
    | [y0, y1], _ =>
      have g0 := hff 0 _ rfl
      have g1 := hff 1 _ rfl
      simp [Tryz.cellsU, Tryz.cellsL, Value.cells] at g0 g1
      obtain ⟨z0, hz0, -, hw0⟩ := DataW.trod_int Tryz.underlying22 g0
      obtain ⟨xs', k', hk', hxy', _, hxl', hff'⟩ := DataW.trod_struct Tryz.underlying24 g1
      match xs', hxl' with
      | [y2, y3], _ =>
        have g2 := hff' 0 _ rfl
        have g3 := hff' 1 _ rfl
        simp [Tryz.cellsI3] at g2 g3
        obtain ⟨z1, hz1, -, -⟩ := DataW.trod_int Tryz.underlying3 g2
        obtain ⟨z2, hz2, -, -⟩ := DataW.trod_int Tryz.underlying3 g3
        simp at hz0 hz1 hz2
        subst hz0 hz1 hz2
        replace hw0 : 0 ≤ z0 ∧ z0 ≤ 18446744073709551615 := by simpa [Lit.wf, IntKind.min, IntKind.max, IntKind.bits, IntKind.signed] using hw0
        obtain ⟨x, rfl⟩ : ∃ m : Nat, z0 = (m : Int) := ⟨z0.toNat, by omega⟩
        exact ⟨x, z1, z2, by omega, rfl⟩
end Go.Proofs.YtmjeljldmmkcpabGreat
