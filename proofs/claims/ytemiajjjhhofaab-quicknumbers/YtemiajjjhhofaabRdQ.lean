/-
  A slice of calls among the arguments, opened for the walk.
-/
import Derived.Test.YtemiajjjhhofaabOpen
import Derived.Deep.SlicePairs
namespace Go.Proofs.Ytemiajjjhhofaab
open Go.ChangeShapes Go.WideShapes Go.ChangeAt Go.RowKit

/-- A slice that reads n calls. -/
structure RdQ (w : World) (a : Option Addr) (n : Nat) : Prop where
  max : n ≤ maxLen
  elem : ∀ j, j < n → ∃ b off, a = some ⟨b, off, none⟩ ∧ ∃ (kind A B : Int) (S P : ByteArray) (xa : Option Addr) (xn xc : Nat) (af : Bool) (xl : List ByteArray),
    w.cell? ⟨b, off + j * 7, none⟩ = some (.int .i64 kind) ∧ w.cell? ⟨b, off + j * 7 + 1, none⟩ = some (.int .i64 A) ∧ w.cell? ⟨b, off + j * 7 + 2, none⟩ = some (.int .i64 B) ∧ w.cell? ⟨b, off + j * 7 + 3, none⟩ = some (.string S) ∧ w.cell? ⟨b, off + j * 7 + 4, none⟩ = some (.string P) ∧ w.cell? ⟨b, off + j * 7 + 5, none⟩ = some (.slice xa xn xc) ∧ w.cell? ⟨b, off + j * 7 + 6, none⟩ = some (.bool af) ∧
    (-9223372036854775808 ≤ A ∧ A ≤ 9223372036854775807) ∧ (-9223372036854775808 ≤ B ∧ B ≤ 9223372036854775807) ∧ RdS w xa xn xl

theorem Try.cells37 : Try.prog.cellsOf 37 = 7 := by kernel_rfl
theorem Try.cells3 : Try.prog.cellsOf 3 = 1 := by kernel_rfl
theorem Try.cells2 : Try.prog.cellsOf 2 = 1 := by kernel_rfl
theorem Try.cells4 : Try.prog.cellsOf 4 = 1 := by kernel_rfl
theorem Try.cells22 : Try.prog.cellsOf 22 = 1 := by kernel_rfl

theorem strs_of_cells {H : Type} {enc : TypeId × Value → H} {W : World} {v : Value} {x : DataW H × List MemPlace} {fuel : Nat}
    (h : DataW.trod enc Try.prog W 0 (fun _ => true) true fuel 22 [v] = some x) : ∃ a n c ls, v = .slice a n c ∧ RdS W a n ls := by
  obtain ⟨d, p⟩ := x
  have hv : ∃ a n c, v = .slice a n c := by
    rcases open_strings Try.underlying22 Try.underlying9 Try.cells9 h with ⟨hcs, -⟩ | ⟨a', len', cap', ss, hcs, -⟩
    · exact ⟨_, _, _, by simpa using hcs⟩
    · exact ⟨_, _, _, by simpa using hcs⟩
  obtain ⟨a, n, c, rfl⟩ := hv
  obtain ⟨ls, hls⟩ := strs_of_trod (a := a) (len := n) (cap := c) (d := d) (p := p) ⟨fuel, h⟩
  exact ⟨a, n, c, ls, rfl, hls⟩

set_option maxRecDepth 100000 in
theorem asks_of_trod {H : Type} {enc : TypeId × Value → H} {W : World} {a : Option Addr} {len cap : Nat} {d : DataW H} {p : List MemPlace}
    (h : DataW.Trod enc Try.prog W 0 (fun _ => true) true 44 (.slice a len cap) d p) : RdQ W a len := by
  obtain ⟨fuel, hf⟩ := h
  rcases Deep.open_slice Try.underlying44 hf with ⟨hcs, -⟩ | ⟨a', len', cap', m, n, D, Pl, hcs, hb, hl, hm, hmm, hx, hel⟩
  · simp [Value.cells] at hcs
    obtain ⟨rfl, rfl, rfl⟩ := hcs
    exact ⟨Nat.zero_le _, fun j hj => absurd hj (Nat.not_lt_zero _)⟩
  · simp [Value.cells] at hcs
    obtain ⟨rfl, rfl, rfl⟩ := hcs
    rw [if_pos rfl] at hmm
    refine ⟨Nat.le_trans hl hm, fun j hj => ?_⟩
    obtain ⟨cs', h1, h2⟩ := hel j (by omega)
    rw [Try.cells37] at h1
    obtain ⟨_, hlen, hcell⟩ := World.cells?_some h1
    obtain ⟨xs, k, hk, hxy, _, hxl, hff⟩ := DataW.trod_struct Try.underlying37 h2
    match xs, hxl, cs', hlen with
    | [y0, y1, y2, y3, y4, y5, y6], _, [v0, v1, v2, v3, v4, v5, v6], _ =>
      have g0 := hff 0 _ rfl
      have g1 := hff 1 _ rfl
      have g2 := hff 2 _ rfl
      have g3 := hff 3 _ rfl
      have g4 := hff 4 _ rfl
      have g5 := hff 5 _ rfl
      have g6 := hff 6 _ rfl
      simp [Try.cells3, Try.cells2, Try.cells4, Try.cells9, Try.cells22] at g0 g1 g2 g3 g4 g5 g6
      have e0 := hcell 0 (by omega)
      have e1 := hcell 1 (by omega)
      have e2 := hcell 2 (by omega)
      have e3 := hcell 3 (by omega)
      have e4 := hcell 4 (by omega)
      have e5 := hcell 5 (by omega)
      have e6 := hcell 6 (by omega)
      rw [Deep.add_add] at e0 e1 e2 e3 e4 e5 e6
      obtain ⟨z0, hz0, -, -⟩ := DataW.trod_int Try.underlying3 g0
      obtain ⟨z1, hz1, -, hw1⟩ := DataW.trod_int Try.underlying2 g1
      obtain ⟨z2, hz2, -, hw2⟩ := DataW.trod_int Try.underlying2 g2
      obtain ⟨z3, hz3, -, -⟩ := DataW.trod_string Try.underlying9 g3
      obtain ⟨z4, hz4, -, -⟩ := DataW.trod_string Try.underlying9 g4
      obtain ⟨xa, xn, xc, xl, hv5, hX⟩ := strs_of_cells g5
      obtain ⟨z6, hz6, -⟩ := DataW.trod_bool Try.underlying4 g6
      simp at hz0 hz1 hz2 hz3 hz4 hz6
      subst hz0 hz1 hz2 hz3 hz4 hv5 hz6
      obtain ⟨b, off, spot⟩ := a'
      have hspot : spot = none := by
        obtain ⟨cs0, k1, -⟩ := hel 0 (by omega)
        rw [Try.cells37] at k1
        obtain ⟨_, hlen0, hcell0⟩ := World.cells?_some k1
        have f0 := hcell0 0 (by omega)
        rw [List.getElem?_eq_getElem (by omega)] at f0
        simpa [Addr.add] using World.cell?_spot f0
      subst hspot
      have hwb1 : -9223372036854775808 ≤ z1 ∧ z1 ≤ 9223372036854775807 := by simpa [Lit.wf, IntKind.min, IntKind.max, IntKind.bits, IntKind.signed] using hw1
      have hwb2 : -9223372036854775808 ≤ z2 ∧ z2 ≤ 9223372036854775807 := by simpa [Lit.wf, IntKind.min, IntKind.max, IntKind.bits, IntKind.signed] using hw2
      rw [Go.WideShapes.add_plain] at e0 e1 e2 e3 e4 e5 e6
      exact ⟨b, off, rfl, z0, z1, z2, z3, z4, xa, xn, xc, z6, xl, by simpa using e0, by simpa [Nat.add_assoc] using e1, by simpa [Nat.add_assoc] using e2, by simpa [Nat.add_assoc] using e3, by simpa [Nat.add_assoc] using e4, by simpa [Nat.add_assoc] using e5, by simpa [Nat.add_assoc] using e6, hwb1, hwb2, hX⟩
end Go.Proofs.Ytemiajjjhhofaab
