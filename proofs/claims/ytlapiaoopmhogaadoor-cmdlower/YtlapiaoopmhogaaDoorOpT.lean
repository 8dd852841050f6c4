/-
  A drawn command, texts and flips among the arguments, opened for the walk.
-/
import Derived.Test.YtlapiaoopmhogaaDoorXLawEnd
import Derived.Test.YtlapiaoopmhogaaDoorAh
import Derived.Deep.SlicePairs
import Derived.Deep.Grids
import Derived.ChangeSlices
import Derived.SliceStrings
import Derived.ChangeArms
namespace Go.Proofs.YtlapiaoopmhogaaDoor
open Go.ChangeShapes Go.WideShapes Go.ChangeAt Go.RowKit

theorem Tryd.cellsAk : Tryd.prog.cellsOf 37 = 4 := by kernel_rfl
theorem Tryd.cellsWd : Tryd.prog.cellsOf 67 = 2 := by kernel_rfl
theorem Tryd.cellsI3 : Tryd.prog.cellsOf 3 = 1 := by kernel_rfl
theorem Tryd.cellsB4 : Tryd.prog.cellsOf 4 = 1 := by kernel_rfl
theorem Tryd.cellsS9 : Tryd.prog.cellsOf 9 = 1 := by kernel_rfl
theorem Tryd.cellsWs : Tryd.prog.cellsOf 35 = 1 := by kernel_rfl

theorem strs_of_trod {H : Type} {enc : TypeId × Value → H} {W : World} {a : Option Addr} {len cap : Nat} {d : DataW H} {p : List MemPlace}
    (h : DataW.Trod enc Tryd.prog W 0 (fun _ => true) true 24 (.slice a len cap) d p) : ∃ ls, RdS W a len ls := by
  obtain ⟨fuel, hf⟩ := h
  rcases open_strings Tryd.underlying24 Tryd.underlying9 Tryd.cellsS9 hf with ⟨hcs, hx⟩ | ⟨a', len', cap', ss, hcs, _, hl, hm, hz, hx, hcell, hws⟩
  · simp [Value.cells] at hcs
    obtain ⟨rfl, rfl, rfl⟩ := hcs
    exact ⟨[], rfl, Nat.zero_le _, fun i hi => absurd hi (Nat.not_lt_zero _)⟩
  · simp [Value.cells] at hcs
    obtain ⟨rfl, rfl, rfl⟩ := hcs
    have hz' : ss.length = cap := by simpa using hz
    refine ⟨ss.take len, by rw [List.length_take]; omega, Nat.le_trans hl hm, fun i hi => ?_⟩
    have hc := hcell i (by omega)
    obtain ⟨b, off, spot⟩ := a'
    have hspot : spot = none := by
      have h0 := hcell 0 (by omega)
      simpa [Addr.add] using World.cell?_spot h0
    subst hspot
    have hg : (ss.take len).getD i ByteArray.empty = ss.getD i ByteArray.empty := by
      rw [List.getD_eq_getElem?_getD, List.getD_eq_getElem?_getD, List.getElem?_take, if_pos hi]
    exact ⟨b, off, rfl, by rw [← Go.WideShapes.add_plain, hg]; exact hc⟩

/-- A row of flips. -/
def RdB (w : World) (a : Option Addr) (n : Nat) : Prop := n ≤ maxLen ∧ ∀ j, j < n → ∃ b off f, a = some ⟨b, off, none⟩ ∧ w.cell? ⟨b, off + j, none⟩ = some (.bool f)
theorem RdB.keep {w wn : World} {a : Option Addr} {n : Nat} (h : RdB w a n) (hb : Below w.heap.size w wn) : RdB wn a n :=
  ⟨h.1, fun j hj => by
    obtain ⟨b, off, f, e, h1⟩ := h.2 j hj
    exact ⟨b, off, f, e, by rw [hb.cell (p := ⟨b, off + j, none⟩) (World.block_lt_of_cell? _ _ h1)]; exact h1⟩⟩
theorem bools_of_trod {H : Type} {enc : TypeId × Value → H} {W : World} {a : Option Addr} {len cap : Nat} {d : DataW H} {p : List MemPlace}
    (h : DataW.Trod enc Tryd.prog W 0 (fun _ => true) true 44 (.slice a len cap) d p) : RdB W a len := by
  obtain ⟨fuel, hf⟩ := h
  rcases Deep.open_bools Tryd.underlying44 Tryd.underlying4 Tryd.cellsB4 hf with ⟨hcs, hx⟩ | ⟨a', len', cap', F, hcs, _, hl, hm, hx, hcell⟩
  · simp [Value.cells] at hcs
    obtain ⟨rfl, rfl, rfl⟩ := hcs
    exact ⟨Nat.zero_le _, fun i hi => absurd hi (Nat.not_lt_zero _)⟩
  · simp [Value.cells] at hcs
    obtain ⟨rfl, rfl, rfl⟩ := hcs
    refine ⟨Nat.le_trans hl hm, fun i hi => ?_⟩
    have hc := hcell i (by omega)
    obtain ⟨b, off, spot⟩ := a'
    have hspot : spot = none := by
      have h0 := hcell 0 (by omega)
      simpa [Addr.add] using World.cell?_spot h0
    subst hspot
    exact ⟨b, off, F i, rfl, by rw [← Go.WideShapes.add_plain]; exact hc⟩

set_option maxRecDepth 100000 in
theorem words_of_trod {H : Type} {enc : TypeId × Value → H} {W : World} {a : Option Addr} {len cap : Nat} {d : DataW H} {p : List MemPlace}
    (h : DataW.Trod enc Tryd.prog W 0 (fun _ => true) true 35 (.slice a len cap) d p) : RdW W a len := by
  obtain ⟨fuel, hf⟩ := h
  rcases Deep.open_slice Tryd.underlying35 hf with ⟨hcs, -⟩ | ⟨a', len', cap', m, n, D, Pl, hcs, hb, hl, hm, hmm, hx, hel⟩
  · simp [Value.cells] at hcs
    obtain ⟨rfl, rfl, rfl⟩ := hcs
    exact ⟨Nat.zero_le _, fun j hj => absurd hj (Nat.not_lt_zero _)⟩
  · simp [Value.cells] at hcs
    obtain ⟨rfl, rfl, rfl⟩ := hcs
    rw [if_pos rfl] at hmm
    refine ⟨Nat.le_trans hl hm, fun j hj => ?_⟩
    obtain ⟨cs', h1, h2⟩ := hel j (by omega)
    rw [Tryd.cellsWd] at h1
    obtain ⟨_, hlen, hcell⟩ := World.cells?_some h1
    obtain ⟨xs, k, hk, hxy, _, hxl, hff⟩ := DataW.trod_struct Tryd.underlying67 h2
    match xs, hxl, cs', hlen with
    | [y0, y1], _, [v0, v1], _ =>
      have g0 := hff 0 _ rfl
      have g1 := hff 1 _ rfl
      simp [Tryd.cellsI3, Tryd.cellsS9] at g0 g1
      have e0 := hcell 0 (by omega)
      have e1 := hcell 1 (by omega)
      rw [Deep.add_add] at e0 e1
      obtain ⟨z0, hz0, -, -⟩ := DataW.trod_int Tryd.underlying3 g0
      obtain ⟨z1, hz1, -, -⟩ := DataW.trod_string Tryd.underlying9 g1
      simp at hz0 hz1
      subst hz0 hz1
      obtain ⟨b, off, spot⟩ := a'
      have hspot : spot = none := by
        obtain ⟨cs0, k1, -⟩ := hel 0 (by omega)
        rw [Tryd.cellsWd] at k1
        obtain ⟨_, hlen0, hcell0⟩ := World.cells?_some k1
        have h0 := hcell0 0 (by omega)
        rw [List.getElem?_eq_getElem (by omega)] at h0
        simpa [Addr.add] using World.cell?_spot h0
      subst hspot
      refine ⟨b, off, z0, z1, rfl, ?_, ?_⟩
      · rw [add_flat] at e0; simpa using e0
      · rw [add_flat] at e1; simpa [Nat.add_assoc] using e1

set_option maxRecDepth 100000 in
theorem ask_of_trod {H : Type} {enc : TypeId × Value → H} {W : World} {v : Value} {r : Reach} {base : Nat} {d : DataW H} {p : List MemPlace}
    (hv : Value.okWide Tryd.prog W r base 37 v) (h : DataW.Trod enc Tryd.prog W 0 (fun _ => true) true 37 v d p) : ∃ wh a n c ft up, v = .agg #[.int .i64 wh, .slice a n c, .bool ft, .bool up] ∧ RdW W a n := by
  obtain ⟨cs, rfl, hs⟩ := okWide_struct Tryd.underlying37 hv
  rw [Tryd.cellsAk] at hs
  obtain ⟨fuel, hf⟩ := h
  obtain ⟨xs, k, hk, hxy, _, hxl, hff⟩ := DataW.trod_struct Tryd.underlying37 hf
  obtain ⟨l⟩ := cs
  match l, hs with
  | [v0, v1, v2, v3], _ =>
    match xs, hxl with
    | [y0, y1, y2, y3], _ =>
      have g0 := hff 0 _ rfl
      have g1 := hff 1 _ rfl
      have g2 := hff 2 _ rfl
      have g3 := hff 3 _ rfl
      simp [Tryd.cellsI3, Tryd.cellsWs, Tryd.cellsB4, Value.cells] at g0 g1 g2 g3
      obtain ⟨z0, hz0, -, -⟩ := DataW.trod_int Tryd.underlying3 g0
      obtain ⟨z2, hz2, -⟩ := DataW.trod_bool Tryd.underlying4 g2
      obtain ⟨z3, hz3, -⟩ := DataW.trod_bool Tryd.underlying4 g3
      simp at hz0 hz2 hz3
      subst hz0 hz2 hz3
      have s1 : ∃ a n c, v1 = .slice a n c := by
        rcases Deep.open_slice Tryd.underlying35 g1 with ⟨hcs, -⟩ | ⟨a', len', cap', m, n, D, Pl, hcs, -⟩
        · simp at hcs; exact ⟨_, _, _, hcs⟩
        · simp at hcs; exact ⟨_, _, _, hcs⟩
      obtain ⟨pa, pn, pc, rfl⟩ := s1
      exact ⟨z0, pa, pn, pc, z2, z3, rfl, words_of_trod (a := pa) (len := pn) (cap := pc) ⟨_, g1⟩⟩
end Go.Proofs.YtlapiaoopmhogaaDoor
