/-
  A slice of parts, and of numbers, among the arguments, opened for the walk.
-/
import Derived.Test.YtkoepgjdjbmknaaOpA
import Derived.Test.YtkoepgjdjbmknaaWr
import Derived.Deep.SlicePairs
namespace Go.Proofs.Ytkoepgjdjbmknaa
open Go.ChangeShapes Go.WideShapes Go.ChangeAt Go.RowKit

theorem trodAll_five {H : Type} {enc : TypeId × Value → H} {P : Program} {w : World} {base : Nat} {spare : Nat → Bool} {held : Bool} {t0 t1 t2 t3 t4 : TypeId} {args : Array Value} {ds : List (DataW H)} {ps : List MemPlace}
    (h : DataW.TrodAll enc P w base spare held [t0, t1, t2, t3, t4] args.toList ds ps) :
    ∃ v0 v1 v2 v3 v4 d0 d1 d2 d3 d4 p0 p1 p2 p3 p4, args = #[v0, v1, v2, v3, v4] ∧ ds = [d0, d1, d2, d3, d4] ∧ ps = p0 ++ (p1 ++ (p2 ++ (p3 ++ p4))) ∧
      DataW.Trod enc P w base spare held t0 v0 d0 p0 ∧ DataW.Trod enc P w base spare held t1 v1 d1 p1 ∧ DataW.Trod enc P w base spare held t2 v2 d2 p2 ∧
      DataW.Trod enc P w base spare held t3 v3 d3 p3 ∧ DataW.Trod enc P w base spare held t4 v4 d4 p4 := by
  obtain ⟨v0, r0, d0, q0, p0, s0, e0, rfl, rfl, h0, h⟩ := trodAll_cons h
  obtain ⟨v1, r1, d1, q1, p1, s1, rfl, rfl, rfl, h1, h⟩ := trodAll_cons h
  obtain ⟨v2, r2, d2, q2, p2, s2, rfl, rfl, rfl, h2, h⟩ := trodAll_cons h
  obtain ⟨v3, r3, d3, q3, p3, s3, rfl, rfl, rfl, h3, h⟩ := trodAll_cons h
  obtain ⟨v4, r4, d4, q4, p4, s4, rfl, rfl, rfl, h4, h⟩ := trodAll_cons h
  obtain ⟨rfl, rfl, rfl⟩ := trodAll_nil h
  exact ⟨v0, v1, v2, v3, v4, d0, d1, d2, d3, d4, p0, p1, p2, p3, p4, by cases args; simp_all, rfl, by simp, h0, h1, h2, h3, h4⟩

theorem Try.cellsP : Try.prog.cellsOf 53 = 3 := by kernel_rfl
theorem Try.cellsI3 : Try.prog.cellsOf 3 = 1 := by kernel_rfl
theorem Try.cellsL : Try.prog.cellsOf 22 = 1 := by kernel_rfl

theorem strs_of_cells {H : Type} {enc : TypeId × Value → H} {W : World} {v : Value} {x : DataW H × List MemPlace} {fuel : Nat}
    (h : DataW.trod enc Try.prog W 0 (fun _ => true) true fuel 22 [v] = some x) : ∃ a n c ls, v = .slice a n c ∧ RdS W a n ls := by
  obtain ⟨d, p⟩ := x
  have hv : ∃ a n c, v = .slice a n c := by
    rcases open_strings Try.underlying22 Try.underlying9 Try.cells9 h with ⟨hcs, -⟩ | ⟨a', len', cap', ss, hcs, -⟩
    · exact ⟨_, _, _, by simpa using hcs⟩
    · exact ⟨_, _, _, by simpa using hcs⟩
  obtain ⟨a, n, c, rfl⟩ := hv
  obtain ⟨ls, hls⟩ := strs_of_trod (a := a) (len := n) (cap := c) (d := d) (p := p) ⟨fuel, h⟩
  exact ⟨a, n, c, ls, rfl, hls⟩

set_option maxRecDepth 100000 in
theorem l_of_trod {H : Type} {enc : TypeId × Value → H} {W : World} {a : Option Addr} {len cap : Nat} {d : DataW H} {p : List MemPlace}
    (h : DataW.Trod enc Try.prog W 0 (fun _ => true) true 27 (.slice a len cap) d p) : RdP W a len := by
  obtain ⟨fuel, hf⟩ := h
  rcases Deep.open_slice Try.underlying27 hf with ⟨hcs, -⟩ | ⟨a', len', cap', m, n, D, Pl, hcs, hb, hl, hm, hmm, hx, hel⟩
  · simp [Value.cells] at hcs
    obtain ⟨rfl, rfl, rfl⟩ := hcs
    exact ⟨Nat.zero_le _, fun j hj => absurd hj (Nat.not_lt_zero _)⟩
  · simp [Value.cells] at hcs
    obtain ⟨rfl, rfl, rfl⟩ := hcs
    rw [if_pos rfl] at hmm
    refine ⟨Nat.le_trans hl hm, fun j hj => ?_⟩
    obtain ⟨cs', h1, h2⟩ := hel j (by omega)
    rw [Try.cellsP] at h1
    obtain ⟨_, hlen, hcell⟩ := World.cells?_some h1
    obtain ⟨xs, k, hk, hxy, _, hxl, hff⟩ := DataW.trod_struct Try.underlying53 h2
    match xs, hxl, cs', hlen with
    | [y0, y1, y2], _, [v0, v1, v2], _ =>
      have g0 := hff 0 _ rfl
      have g1 := hff 1 _ rfl
      have g2 := hff 2 _ rfl
      simp [Try.cellsI3, Try.cellsL, Try.cells9] at g0 g1 g2
      have e0 := hcell 0 (by omega)
      have e1 := hcell 1 (by omega)
      have e2 := hcell 2 (by omega)
      rw [Deep.add_add] at e0 e1 e2
      obtain ⟨z0, hz0, -, -⟩ := DataW.trod_int Try.underlying3 g0
      obtain ⟨xa, xn, xc, xl, hv1, hX⟩ := strs_of_cells g1
      obtain ⟨z2, hz2, -, -⟩ := DataW.trod_string Try.underlying9 g2
      simp at hz0 hz2
      subst hz0 hz2 hv1
      obtain ⟨b, off, spot⟩ := a'
      have hspot : spot = none := by
        obtain ⟨cs0, k1, -⟩ := hel 0 (by omega)
        rw [Try.cellsP] at k1
        obtain ⟨_, hlen0, hcell0⟩ := World.cells?_some k1
        have f0 := hcell0 0 (by omega)
        rw [List.getElem?_eq_getElem (by omega)] at f0
        simpa [Addr.add] using World.cell?_spot f0
      subst hspot
      rw [Go.WideShapes.add_plain] at e0 e1 e2
      refine ⟨b, off, rfl, z0, xa, xn, xc, xl, z2, by simpa using e0, by simpa [Nat.add_assoc] using e1, by simpa [Nat.add_assoc] using e2, hX⟩

/-- A slice that reads n numbers. -/
structure RdZ (w : World) (a : Option Addr) (n : Nat) (z : Nat → Int) : Prop where
  max : n ≤ maxLen
  elem : ∀ j, j < n → ∃ b off, a = some ⟨b, off, none⟩ ∧ w.cell? ⟨b, off + j, none⟩ = some (.int .i64 (z j))
theorem RdZ.keep {w wn : World} {a : Option Addr} {n : Nat} {z : Nat → Int} (h : RdZ w a n z) (hb : Below w.heap.size w wn) : RdZ wn a n z :=
  ⟨h.max, fun j hj => by
    obtain ⟨b, off, e, h1⟩ := h.elem j hj
    exact ⟨b, off, e, by rw [hb.cell (p := ⟨b, off + j, none⟩) (World.block_lt_of_cell? _ _ h1)]; exact h1⟩⟩
theorem ints_of_trod {H : Type} {enc : TypeId × Value → H} {W : World} {a : Option Addr} {len cap : Nat} {d : DataW H} {p : List MemPlace}
    (h : DataW.Trod enc Try.prog W 0 (fun _ => true) true 32 (.slice a len cap) d p) : ∃ z, RdZ W a len z := by
  obtain ⟨fuel, hf⟩ := h
  rcases open_ints Try.underlying32 Try.underlying3 Try.cellsI3 hf with ⟨hcs, hx⟩ | ⟨a', len', cap', zs, hcs, _, hl, hm, hz, hx, hcell, hws⟩
  · simp [Value.cells] at hcs
    obtain ⟨rfl, rfl, rfl⟩ := hcs
    exact ⟨fun _ => 0, Nat.zero_le _, fun i hi => absurd hi (Nat.not_lt_zero _)⟩
  · simp [Value.cells] at hcs
    obtain ⟨rfl, rfl, rfl⟩ := hcs
    refine ⟨fun i => zs.getD i 0, Nat.le_trans hl hm, fun i hi => ?_⟩
    have hz' : zs.length = cap := by simpa using hz
    have hc := hcell i (by omega)
    obtain ⟨b, off, spot⟩ := a'
    have hspot : spot = none := by
      have h0 := hcell 0 (by omega)
      simpa [Addr.add] using World.cell?_spot h0
    subst hspot
    exact ⟨b, off, rfl, by rw [← Go.WideShapes.add_plain]; exact hc⟩
end Go.Proofs.Ytkoepgjdjbmknaa
