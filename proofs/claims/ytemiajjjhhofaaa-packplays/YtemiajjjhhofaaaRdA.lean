/-
  A slice of calls among the arguments, opened for the walk.
-/
import Derived.Test.YtemiajjjhhofaaaOpen
import Derived.Deep.SlicePairs
namespace Go.Proofs.Ytemiajjjhhofaaa
open Go.ChangeShapes Go.WideShapes Go.ChangeAt Go.RowKit

/-- A slice that reads n calls. -/
structure RdA (w : World) (a : Option Addr) (n : Nat) : Prop where
  max : n ≤ maxLen
  elem : ∀ j, j < n → ∃ b off, a = some ⟨b, off, none⟩ ∧ ∃ (kind i N : Int) (xa : Option Addr) (xn xc : Nat) (xl : List ByteArray),
    w.cell? ⟨b, off + j * 4, none⟩ = some (.int .i64 kind) ∧ w.cell? ⟨b, off + j * 4 + 1, none⟩ = some (.int .i64 i) ∧ w.cell? ⟨b, off + j * 4 + 2, none⟩ = some (.int .i64 N) ∧ w.cell? ⟨b, off + j * 4 + 3, none⟩ = some (.slice xa xn xc) ∧
    -9223372036854775808 ≤ i ∧ i ≤ 9223372036854775807 ∧ RdS w xa xn xl

theorem Try.cells28 : Try.prog.cellsOf 28 = 4 := by kernel_rfl
theorem Try.cells3 : Try.prog.cellsOf 3 = 1 := by kernel_rfl
theorem Try.cells24 : Try.prog.cellsOf 24 = 1 := by kernel_rfl

theorem strs_of_cells {H : Type} {enc : TypeId × Value → H} {W : World} {v : Value} {x : DataW H × List MemPlace} {fuel : Nat}
    (h : DataW.trod enc Try.prog W 0 (fun _ => true) true fuel 24 [v] = some x) : ∃ a n c ls, v = .slice a n c ∧ RdS W a n ls := by
  obtain ⟨d, p⟩ := x
  have hv : ∃ a n c, v = .slice a n c := by
    rcases open_strings Try.underlying24 Try.underlying9 Try.cells9 h with ⟨hcs, -⟩ | ⟨a', len', cap', ss, hcs, -⟩
    · exact ⟨_, _, _, by simpa using hcs⟩
    · exact ⟨_, _, _, by simpa using hcs⟩
  obtain ⟨a, n, c, rfl⟩ := hv
  obtain ⟨ls, hls⟩ := strs_of_trod (a := a) (len := n) (cap := c) (d := d) (p := p) ⟨fuel, h⟩
  exact ⟨a, n, c, ls, rfl, hls⟩

set_option maxRecDepth 100000 in
theorem asks_of_trod {H : Type} {enc : TypeId × Value → H} {W : World} {a : Option Addr} {len cap : Nat} {d : DataW H} {p : List MemPlace}
    (h : DataW.Trod enc Try.prog W 0 (fun _ => true) true 37 (.slice a len cap) d p) : RdA W a len := by
  obtain ⟨fuel, hf⟩ := h
  rcases Deep.open_slice Try.underlying37 hf with ⟨hcs, -⟩ | ⟨a', len', cap', m, n, D, Pl, hcs, hb, hl, hm, hmm, hx, hel⟩
  · simp [Value.cells] at hcs
    obtain ⟨rfl, rfl, rfl⟩ := hcs
    exact ⟨Nat.zero_le _, fun j hj => absurd hj (Nat.not_lt_zero _)⟩
  · simp [Value.cells] at hcs
    obtain ⟨rfl, rfl, rfl⟩ := hcs
    rw [if_pos rfl] at hmm
    refine ⟨Nat.le_trans hl hm, fun j hj => ?_⟩
    obtain ⟨cs', h1, h2⟩ := hel j (by omega)
    rw [Try.cells28] at h1
    obtain ⟨_, hlen, hcell⟩ := World.cells?_some h1
    obtain ⟨xs, k, hk, hxy, _, hxl, hff⟩ := DataW.trod_struct Try.underlying28 h2
    match xs, hxl, cs', hlen with
    | [y0, y1, y2, y3], _, [v0, v1, v2, v3], _ =>
      have g0 := hff 0 _ rfl
      have g1 := hff 1 _ rfl
      have g2 := hff 2 _ rfl
      have g3 := hff 3 _ rfl
      simp [Try.cells3, Try.cells24] at g0 g1 g2 g3
      have e0 := hcell 0 (by omega)
      have e1 := hcell 1 (by omega)
      have e2 := hcell 2 (by omega)
      have e3 := hcell 3 (by omega)
      rw [Deep.add_add] at e0 e1 e2 e3
      obtain ⟨z0, hz0, -, -⟩ := DataW.trod_int Try.underlying3 g0
      obtain ⟨z1, hz1, -, hw1⟩ := DataW.trod_int Try.underlying3 g1
      obtain ⟨z2, hz2, -, -⟩ := DataW.trod_int Try.underlying3 g2
      obtain ⟨xa, xn, xc, xl, hv3, hX⟩ := strs_of_cells g3
      simp at hz0 hz1 hz2
      subst hz0 hz1 hz2 hv3
      obtain ⟨b, off, spot⟩ := a'
      have hspot : spot = none := by
        obtain ⟨cs0, k1, -⟩ := hel 0 (by omega)
        rw [Try.cells28] at k1
        obtain ⟨_, hlen0, hcell0⟩ := World.cells?_some k1
        have f0 := hcell0 0 (by omega)
        rw [List.getElem?_eq_getElem (by omega)] at f0
        simpa [Addr.add] using World.cell?_spot f0
      subst hspot
      have hwb : -9223372036854775808 ≤ z1 ∧ z1 ≤ 9223372036854775807 := by simpa [Lit.wf, IntKind.min, IntKind.max, IntKind.bits, IntKind.signed] using hw1
      rw [Go.WideShapes.add_plain] at e0 e1 e2 e3
      refine ⟨b, off, rfl, z0, z1, z2, xa, xn, xc, xl, by simpa using e0, by simpa [Nat.add_assoc] using e1, by simpa [Nat.add_assoc] using e2, by simpa [Nat.add_assoc] using e3, hwb.1, hwb.2, hX⟩
end Go.Proofs.Ytemiajjjhhofaaa
