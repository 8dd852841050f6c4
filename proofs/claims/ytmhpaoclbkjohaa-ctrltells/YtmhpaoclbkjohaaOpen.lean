/-
  Slices of bytes among the arguments, opened for the walk.
-/
import Derived.Test.YtmhpaoclbkjohaaLawEnd
import Derived.Test.YtmhpaoclbkjohaaKeep
import Derived.ChangeSlices
namespace Go.Proofs.Ytmhpaoclbkjohaa
open Go.ChangeShapes Go.WideShapes Go.ChangeAt Go.RowKit

theorem Try.cells5 : Try.prog.cellsOf 5 = 1 := by kernel_rfl

/-- A slice that reads the bytes l. -/
structure RdB (w : World) (a : Option Addr) (n : Nat) (l : List Nat) : Prop where
  len : l.length = n
  max : n ≤ maxLen
  byt : Byt l
  cell : ∀ j, j < n → ∃ b off, a = some ⟨b, off, none⟩ ∧ w.cell? ⟨b, off + j, none⟩ = some (.int .u8 (l.getD j 0 : Nat))
theorem RdB.keep {w wn : World} {a : Option Addr} {n : Nat} {ls : List Nat} (h : RdB w a n ls) (hb : Below w.heap.size w wn) : RdB wn a n ls :=
  ⟨h.len, h.max, h.byt, fun j hj => by
    obtain ⟨b, off, e, hc⟩ := h.cell j hj
    exact ⟨b, off, e, by rw [hb.cell (p := ⟨b, off + j, none⟩) (World.block_lt_of_cell? _ _ hc)]; exact hc⟩⟩

theorem bytes_of_trod {H : Type} {enc : TypeId × Value → H} {W : World} {a : Option Addr} {len cap : Nat} {d : DataW H} {p : List MemPlace}
    (h : DataW.Trod enc Try.prog W 0 (fun _ => true) true 30 (.slice a len cap) d p) : ∃ l, RdB W a len l := by
  obtain ⟨fuel, hf⟩ := h
  rcases open_ints Try.underlying30 Try.underlying5 Try.cells5 hf with ⟨hcs, hx⟩ | ⟨a', len', cap', zs, hcs, _, hl, hm, hz, hx, hcell, hws⟩
  · simp [Value.cells] at hcs
    obtain ⟨rfl, rfl, rfl⟩ := hcs
    exact ⟨[], rfl, Nat.zero_le _, fun b hb => absurd hb (by simp), fun j hj => absurd hj (Nat.not_lt_zero _)⟩
  · simp [Value.cells] at hcs
    obtain ⟨rfl, rfl, rfl⟩ := hcs
    have hz' : zs.length = cap := by simpa using hz
    have hwf : ∀ z ∈ zs, 0 ≤ z ∧ z ≤ 255 := fun z hz0 => by
      have := hws z hz0
      simpa [Lit.wf, IntKind.min, IntKind.max, IntKind.bits, IntKind.signed] using this
    refine ⟨(zs.take len).map (fun z => z.toNat), by rw [List.length_map, List.length_take]; omega, Nat.le_trans hl hm, fun b hb => ?_, fun i hi => ?_⟩
    · obtain ⟨z, hz1, rfl⟩ := List.mem_map.1 hb
      have := hwf z (List.mem_of_mem_take hz1)
      omega
    · have hc := hcell i (by omega)
      obtain ⟨b, off, spot⟩ := a'
      have hspot : spot = none := by
        have h0 := hcell 0 (by omega)
        simpa [Addr.add] using World.cell?_spot h0
      subst hspot
      refine ⟨b, off, rfl, ?_⟩
      have hb := hwf (zs.getD i 0) (by
        rw [List.getD_eq_getElem?_getD, List.getElem?_eq_getElem (by omega)]
        simp)
      have hg : (((zs.take len).map (fun z => z.toNat)).getD i 0) = (zs.getD i 0).toNat := by
        rw [List.getD_eq_getElem?_getD, List.getElem?_map, List.getElem?_take, if_pos hi, List.getD_eq_getElem?_getD, List.getElem?_eq_getElem (by omega)]; rfl
      have hv : ((zs.getD i 0).toNat : Int) = zs.getD i 0 := by omega
      rw [← Go.WideShapes.add_plain, hc, hg, hv]
end Go.Proofs.Ytmhpaoclbkjohaa
