/-
  A slice of calls (Ask) that is read; one among the arguments, opened for the walk.
-/
import Derived.Test.YtejnmikbbnckeaaLawEnd
import Derived.Test.YtejnmikbbnckeaaKn
import Derived.ChangeSlices
import Derived.SliceStrings
import Derived.Deep.SlicePairs
namespace Go.Proofs.Ytejnmikbbnckeaa
open Go.ChangeShapes Go.WideShapes Go.ChangeAt Go.RowKit

/-- A slice that reads n calls. -/
structure RdA (w : World) (a : Option Addr) (n : Nat) : Prop where
  max : n ≤ maxLen
  elem : ∀ j, j < n → ∃ b off, a = some ⟨b, off, none⟩ ∧ ∃ (kind N V : Int) (S : ByteArray),
    w.cell? ⟨b, off + j * 4, none⟩ = some (.int .i64 kind) ∧ w.cell? ⟨b, off + j * 4 + 1, none⟩ = some (.int .i64 N) ∧ w.cell? ⟨b, off + j * 4 + 2, none⟩ = some (.int .i64 V) ∧ w.cell? ⟨b, off + j * 4 + 3, none⟩ = some (.string S)
theorem RdA.keep {w wn : World} {a : Option Addr} {n : Nat} (h : RdA w a n) (hb : Below w.heap.size w wn) : RdA wn a n :=
  ⟨h.max, fun j hj => by
    obtain ⟨b, off, e, kind, N, V, S, h1, h2, h3, h4⟩ := h.elem j hj
    have hlt : b < w.heap.size := World.block_lt_of_cell? _ _ h1
    exact ⟨b, off, e, kind, N, V, S, by rw [hb.cell (p := ⟨b, off + j * 4, none⟩) hlt]; exact h1, by rw [hb.cell (p := ⟨b, off + j * 4 + 1, none⟩) hlt]; exact h2, by rw [hb.cell (p := ⟨b, off + j * 4 + 2, none⟩) hlt]; exact h3, by rw [hb.cell (p := ⟨b, off + j * 4 + 3, none⟩) hlt]; exact h4⟩⟩

theorem Try.cells52 : Try.prog.cellsOf 52 = 4 := by kernel_rfl
theorem Try.cells3 : Try.prog.cellsOf 3 = 1 := by kernel_rfl
theorem Try.cells9 : Try.prog.cellsOf 9 = 1 := by kernel_rfl

set_option maxRecDepth 100000 in
theorem l_of_trod {H : Type} {enc : TypeId × Value → H} {W : World} {a : Option Addr} {len cap : Nat} {d : DataW H} {p : List MemPlace}
    (h : DataW.Trod enc Try.prog W 0 (fun _ => true) true 35 (.slice a len cap) d p) : RdA W a len := by
  obtain ⟨fuel, hf⟩ := h
  rcases Deep.open_slice Try.underlying35 hf with ⟨hcs, -⟩ | ⟨a', len', cap', m, n, D, Pl, hcs, hb, hl, hm, hmm, hx, hel⟩
  · simp [Value.cells] at hcs
    obtain ⟨rfl, rfl, rfl⟩ := hcs
    exact ⟨Nat.zero_le _, fun j hj => absurd hj (Nat.not_lt_zero _)⟩
  · simp [Value.cells] at hcs
    obtain ⟨rfl, rfl, rfl⟩ := hcs
    rw [if_pos rfl] at hmm
    refine ⟨Nat.le_trans hl hm, fun j hj => ?_⟩
    obtain ⟨cs', h1, h2⟩ := hel j (by omega)
    rw [Try.cells52] at h1
    obtain ⟨_, hlen, hcell⟩ := World.cells?_some h1
    obtain ⟨xs, k, hk, hxy, _, hxl, hff⟩ := DataW.trod_struct Try.underlying52 h2
    match xs, hxl, cs', hlen with
    | [y0, y1, y2, y3], _, [v0, v1, v2, v3], _ =>
      have g0 := hff 0 _ rfl
      have g1 := hff 1 _ rfl
      have g2 := hff 2 _ rfl
      have g3 := hff 3 _ rfl
      simp [Try.cells3, Try.cells9] at g0 g1 g2 g3
      have e0 := hcell 0 (by omega)
      have e1 := hcell 1 (by omega)
      have e2 := hcell 2 (by omega)
      have e3 := hcell 3 (by omega)
      rw [Deep.add_add] at e0 e1 e2 e3
      obtain ⟨z0, hz0, -, -⟩ := DataW.trod_int Try.underlying3 g0
      obtain ⟨z1, hz1, -, -⟩ := DataW.trod_int Try.underlying3 g1
      obtain ⟨z2, hz2, -, -⟩ := DataW.trod_int Try.underlying3 g2
      obtain ⟨z3, hz3, -⟩ := DataW.trod_string Try.underlying9 g3
      simp at hz0 hz1 hz2 hz3
      subst hz0 hz1 hz2 hz3
      obtain ⟨b, off, spot⟩ := a'
      have hspot : spot = none := by
        obtain ⟨cs0, k1, -⟩ := hel 0 (by omega)
        rw [Try.cells52] at k1
        obtain ⟨_, hlen0, hcell0⟩ := World.cells?_some k1
        have f0 := hcell0 0 (by omega)
        rw [List.getElem?_eq_getElem (by omega)] at f0
        simpa [Addr.add] using World.cell?_spot f0
      subst hspot
      rw [Go.WideShapes.add_plain] at e0 e1 e2 e3
      exact ⟨b, off, rfl, z0, z1, z2, z3, by simpa using e0, by simpa [Nat.add_assoc] using e1, by simpa [Nat.add_assoc] using e2, by simpa [Nat.add_assoc] using e3⟩
end Go.Proofs.Ytejnmikbbnckeaa
