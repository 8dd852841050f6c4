/-
  A slice of slices of texts among the arguments, opened for the walk.
-/
import Derived.Test.YtkoepgjdjbmknaaOpC
namespace Go.Proofs.Ytkoepgjdjbmknaa
open Go.ChangeShapes Go.WideShapes Go.ChangeAt Go.RowKit

/-- A slice that reads n slices of texts. -/
structure RdSS (w : World) (a : Option Addr) (n : Nat) : Prop where
  max : n ≤ maxLen
  elem : ∀ j, j < n → ∃ b off, a = some ⟨b, off, none⟩ ∧ ∃ (xa : Option Addr) (xn xc : Nat) (xl : List ByteArray), w.cell? ⟨b, off + j, none⟩ = some (.slice xa xn xc) ∧ RdS w xa xn xl
theorem RdSS.keep {w wn : World} {a : Option Addr} {n : Nat} (h : RdSS w a n) (hb : Below w.heap.size w wn) : RdSS wn a n :=
  ⟨h.max, fun j hj => by
    obtain ⟨b, off, e, xa, xn, xc, xl, h1, h2⟩ := h.elem j hj
    exact ⟨b, off, e, xa, xn, xc, xl, by rw [hb.cell (p := ⟨b, off + j, none⟩) (World.block_lt_of_cell? _ _ h1)]; exact h1, h2.keep hb⟩⟩
set_option maxRecDepth 100000 in
theorem strss_of_trod {H : Type} {enc : TypeId × Value → H} {W : World} {a : Option Addr} {len cap : Nat} {d : DataW H} {p : List MemPlace}
    (h : DataW.Trod enc Try.prog W 0 (fun _ => true) true 33 (.slice a len cap) d p) : ∃ _ : Unit, RdSS W a len := by
  refine ⟨(), ?_⟩
  obtain ⟨fuel, hf⟩ := h
  rcases Deep.open_slice Try.underlying33 hf with ⟨hcs, -⟩ | ⟨a', len', cap', m, n, D, Pl, hcs, hb, hl, hm, hmm, hx, hel⟩
  · simp [Value.cells] at hcs
    obtain ⟨rfl, rfl, rfl⟩ := hcs
    exact ⟨Nat.zero_le _, fun j hj => absurd hj (Nat.not_lt_zero _)⟩
  · simp [Value.cells] at hcs
    obtain ⟨rfl, rfl, rfl⟩ := hcs
    rw [if_pos rfl] at hmm
    refine ⟨Nat.le_trans hl hm, fun j hj => ?_⟩
    obtain ⟨cs', h1, h2⟩ := hel j (by omega)
    rw [Try.cellsL] at h1
    obtain ⟨_, hlen, hcell⟩ := World.cells?_some h1
    have e0 := hcell 0 (by omega)
    rw [Deep.add_add] at e0
    obtain ⟨b, off, spot⟩ := a'
    have hspot : spot = none := by
      obtain ⟨cs0, k1, -⟩ := hel 0 (by omega)
      rw [Try.cellsL] at k1
      obtain ⟨_, hlen0, hcell0⟩ := World.cells?_some k1
      have h0 := hcell0 0 (by omega)
      rw [List.getElem?_eq_getElem (by omega)] at h0
      simpa [Addr.add] using World.cell?_spot h0
    subst hspot
    match cs', hlen with
    | [v0], _ =>
      obtain ⟨xa, xn, xc, xl, rfl, hX⟩ := strs_of_cells h2
      rw [Go.WideShapes.add_plain] at e0
      exact ⟨b, off, rfl, xa, xn, xc, xl, by simpa using e0, hX⟩
end Go.Proofs.Ytkoepgjdjbmknaa
