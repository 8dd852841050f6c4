/-
  Rows of calls, and bools, among the arguments, opened for the walk.
-/
import Derived.Test.YtkohjejfkbaffaaGreatG20
import Derived.Test.YtkohjejfkbaffaaGreatSeveral
namespace Go.Proofs.YtkohjejfkbaffaaGreat
open Go.ChangeShapes Go.WideShapes Go.ChangeAt Go.RowKit

theorem Tryz.cellsS22 : Tryz.prog.cellsOf 22 = 1 := by kernel_rfl
theorem Tryz.cellsS4 : Tryz.prog.cellsOf 4 = 1 := by kernel_rfl
set_option maxRecDepth 100000 in
theorem askss_of_trod {H : Type} {enc : TypeId × Value → H} {W : World} {a : Option Addr} {len cap : Nat} {d : DataW H} {p : List MemPlace}
    (h : DataW.Trod enc Tryz.prog W 0 (fun _ => true) true 44 (.slice a len cap) d p) : RdKK W a len := by
  obtain ⟨fuel, hf⟩ := h
  rcases Deep.open_slice Tryz.underlying44 hf with ⟨hcs, -⟩ | ⟨a', len', cap', m, n, D, Pl, hcs, hb, hl, hm, hmm, hx, hel⟩
  · simp [Value.cells] at hcs
    obtain ⟨rfl, rfl, rfl⟩ := hcs
    exact ⟨Nat.zero_le _, fun j hj => absurd hj (Nat.not_lt_zero _)⟩
  · simp [Value.cells] at hcs
    obtain ⟨rfl, rfl, rfl⟩ := hcs
    rw [if_pos rfl] at hmm
    refine ⟨Nat.le_trans hl hm, fun j hj => ?_⟩
    obtain ⟨cs', h1, h2⟩ := hel j (by omega)
    rw [Tryz.cellsS22] at h1
    obtain ⟨_, hlen, hcell⟩ := World.cells?_some h1
    have e0 := hcell 0 (by omega)
    rw [Deep.add_add] at e0
    obtain ⟨b, off, spot⟩ := a'
    have hspot : spot = none := by
      obtain ⟨cs0, k1, -⟩ := hel 0 (by omega)
      rw [Tryz.cellsS22] at k1
      obtain ⟨_, hlen0, hcell0⟩ := World.cells?_some k1
      have h0 := hcell0 0 (by omega)
      rw [List.getElem?_eq_getElem (by omega)] at h0
      simpa [Addr.add] using World.cell?_spot h0
    subst hspot
    match cs', hlen with
    | [v0], _ =>
      obtain ⟨sa, sn, sc, rfl⟩ : ∃ sa sn sc, v0 = .slice sa sn sc := by
        rcases Deep.open_slice Tryz.underlying22 h2 with ⟨hcs, -⟩ | ⟨a2, l2, c2, _, _, _, _, hcs, -⟩
        · simp at hcs; exact ⟨_, _, _, hcs⟩
        · simp at hcs; exact ⟨_, _, _, hcs⟩
      refine ⟨b, off, sa, sn, sc, rfl, ?_, asks_of_trod (d := D j) (p := Pl j) ⟨n, h2⟩⟩
      rw [add_plain] at e0
      simpa using e0
set_option maxRecDepth 100000 in
theorem bools_of_trod {H : Type} {enc : TypeId × Value → H} {W : World} {a : Option Addr} {len cap : Nat} {d : DataW H} {p : List MemPlace}
    (h : DataW.Trod enc Tryz.prog W 0 (fun _ => true) true 45 (.slice a len cap) d p) : RdBl W a len := by
  obtain ⟨fuel, hf⟩ := h
  rcases Deep.open_slice Tryz.underlying45 hf with ⟨hcs, -⟩ | ⟨a', len', cap', m, n, D, Pl, hcs, hb, hl, hm, hmm, hx, hel⟩
  · simp [Value.cells] at hcs
    obtain ⟨rfl, rfl, rfl⟩ := hcs
    exact ⟨Nat.zero_le _, fun j hj => absurd hj (Nat.not_lt_zero _)⟩
  · simp [Value.cells] at hcs
    obtain ⟨rfl, rfl, rfl⟩ := hcs
    rw [if_pos rfl] at hmm
    refine ⟨Nat.le_trans hl hm, fun j hj => ?_⟩
    obtain ⟨cs', h1, h2⟩ := hel j (by omega)
    rw [Tryz.cellsS4] at h1
    obtain ⟨_, hlen, hcell⟩ := World.cells?_some h1
    have e0 := hcell 0 (by omega)
    rw [Deep.add_add] at e0
    obtain ⟨b, off, spot⟩ := a'
    have hspot : spot = none := by
      obtain ⟨cs0, k1, -⟩ := hel 0 (by omega)
      rw [Tryz.cellsS4] at k1
      obtain ⟨_, hlen0, hcell0⟩ := World.cells?_some k1
      have h0 := hcell0 0 (by omega)
      rw [List.getElem?_eq_getElem (by omega)] at h0
      simpa [Addr.add] using World.cell?_spot h0
    subst hspot
    obtain ⟨t, rfl, -⟩ := DataW.trod_bool Tryz.underlying4 h2
    refine ⟨b, off, t, rfl, ?_⟩
    rw [add_plain] at e0
    simpa using e0
end Go.Proofs.YtkohjejfkbaffaaGreat
