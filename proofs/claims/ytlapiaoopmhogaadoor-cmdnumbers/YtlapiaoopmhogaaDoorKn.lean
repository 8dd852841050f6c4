/-
  The law's helper: known.
-/
import Derived.Test.YtlapiaoopmhogaaDoorLq
namespace Go.Proofs.YtlapiaoopmhogaaDoor
open Go.RowKit Go.PlainAid

theorem RdS.lit (w : World) (ls : List ByteArray) (t : TypeId) (n : Nat) (cs : Array Value) (hc : cs.toList = ls.map Value.string) (hn : ls.length = n) (hm : n ≤ maxLen) : RdS (w.alloc (.cells cs t)) (some ⟨w.heap.size, 0, none⟩) n ls :=
  ⟨hn, hm, fun j hj => ⟨w.heap.size, 0, rfl, by
    rw [Nat.zero_add]
    refine cell_new w cs t j _ ?_
    rw [← Array.getElem?_toList, hc, List.getElem?_map, List.getD_eq_getElem?_getD, List.getElem?_eq_getElem (by omega)]
    rfl⟩⟩
def whyD (ls : List ByteArray) : Int := whyOf (findD progs (nameP ls)) ls.length (longB ls)
theorem why_D (ls : List ByteArray) : whyP ls = whyD ls := by rw [whyP, whyD, findD_eq, cmdP]
def getC : Cm := ⟨⟨#[103, 101, 116]⟩, 2, 2, false, 1⟩
theorem get_found : fnd progs (low ⟨#[71, 101, 84]⟩) = some getC := by rw [← findD_eq]; kernel_rfl
theorem set_why : whyP [⟨#[115, 101, 116]⟩, ⟨#[97]⟩] = 2 := by rw [why_D]; kernel_rfl
theorem no_why : whyP [⟨#[110, 111, 115, 117, 99, 104]⟩] = 3 := by rw [why_D]; kernel_rfl
theorem set_name : nameP [⟨#[115, 101, 116]⟩, ⟨#[97]⟩] = ⟨#[115, 101, 116]⟩ := by kernel_rfl
theorem no_name : nameP [⟨#[110, 111, 115, 117, 99, 104]⟩] = ⟨#[110, 111, 115, 117, 99, 104]⟩ := by kernel_rfl
theorem ChkP.err {w w' : World} {ls : List ByteArray} {e : Ending} (h : ChkP w w' ls e) {why : Int} {nm : ByteArray} (hw : whyP ls = why) (hn : nameP ls = nm) (h0 : ¬ why = 0) : Below w.heap.size w w' ∧ ∃ E, e = .returned (.tuple #[.agg #[.string ⟨#[]⟩, .int .i64 0, .int .i64 0, .bool false, .int .i64 0], E]) ∧ Flt w' E nm why := by
  refine ⟨h.1, ?_⟩
  have hz : cP ls = Cm.z := by rw [cP, hw, if_neg h0]
  rcases h.2 with ⟨h1, -⟩ | ⟨-, E, h1, h2⟩
  · exact absurd (hw.symm.trans h1) h0
  · rw [hz] at h1
    rw [hn, hw] at h2
    exact ⟨E, h1, h2⟩
theorem ChkP.ok {w w' : World} {ls : List ByteArray} {e : Ending} (h : ChkP w w' ls e) (hw : whyP ls = 0) : Below w.heap.size w w' ∧ e = .returned (.tuple #[(cP ls).v, .nilIface]) := by
  refine ⟨h.1, ?_⟩
  rcases h.2 with ⟨-, h1⟩ | ⟨h1, -⟩
  · exact h1
  · exact absurd hw h1

set_option maxRecDepth 100000 in
set_option maxHeartbeats 4000000 in
theorem known_any (w : World) (hg : Laid w) : Calls Tryd.prog 12 #[] w fun e w' => e = .returned (.bool true) ∧ Below w.heap.size w w' := by
  have HG : Hid (Laid w) := hg
  have hgl := lt_of_cell? hg
  have HGL : Hid (0 < w.heap.size) := hgl
  have HLk : ∀ w, Calls Tryd.prog 9 #[.string ⟨#[71, 101, 84]⟩] w fun e w' => e = .returned (.tuple #[.agg #[.string ⟨#[103, 101, 116]⟩, .int .i64 2, .int .i64 2, .bool false, .int .i64 1], .bool true]) ∧ Below w.heap.size w w' := fun w => by
    have h := Lookup_any ⟨#[71, 101, 84]⟩ w (by decide)
    rw [get_found] at h
    exact h
  have HC1 : ∀ w, Calls Tryd.prog 18 #[.slice (some ⟨w.heap.size, 0, none⟩) 2 2] (w.alloc (.cells #[.string ⟨#[115, 101, 116]⟩, .string ⟨#[97]⟩] 9)) fun e w' => Below w.heap.size w w' ∧ ∃ E, e = .returned (.tuple #[.agg #[.string ⟨#[]⟩, .int .i64 0, .int .i64 0, .bool false, .int .i64 0], E]) ∧ Hid (Flt w' E ⟨#[115, 101, 116]⟩ 2) := fun w =>
    (Check_any _ 2 2 _ _ (RdS.lit w [⟨#[115, 101, 116]⟩, ⟨#[97]⟩] 9 2 _ rfl rfl (by decide))).mono fun e w' h => by
      obtain ⟨h1, E, h2, h3⟩ := h.err set_why set_name (by decide)
      exact ⟨(alloc_below w _).trans (h1.mono (alloc_below w _).size), E, h2, h3⟩
  have HC2 : ∀ w, Calls Tryd.prog 18 #[.slice (some ⟨w.heap.size, 0, none⟩) 1 1] (w.alloc (.cells #[.string ⟨#[110, 111, 115, 117, 99, 104]⟩] 9)) fun e w' => Below w.heap.size w w' ∧ ∃ E, e = .returned (.tuple #[.agg #[.string ⟨#[]⟩, .int .i64 0, .int .i64 0, .bool false, .int .i64 0], E]) ∧ Hid (Flt w' E ⟨#[110, 111, 115, 117, 99, 104]⟩ 3) := fun w =>
    (Check_any _ 1 1 _ _ (RdS.lit w [⟨#[110, 111, 115, 117, 99, 104]⟩] 9 1 _ rfl rfl (by decide))).mono fun e w' h => by
      obtain ⟨h1, E, h2, h3⟩ := h.err no_why no_name (by decide)
      exact ⟨(alloc_below w _).trans (h1.mono (alloc_below w _).size), E, h2, h3⟩
  clear hg hgl
  go_enter Tryd.func12, Tryd.ntmps12
  go_upto_region 2 with (go_at_call 9; refine (HLk _).mono ?_; rintro e w1 ⟨rfl, hB1⟩)
  obtain ⟨wq, hwq⟩ : ∃ wq, w1.alloc (.cells #[.string ⟨#[103, 101, 116]⟩, .int .i64 2, .int .i64 2, .bool false, .int .i64 1] 27) = wq := ⟨_, rfl⟩
  have hBq : Below w1.heap.size w1 wq := by rw [← hwq]; exact alloc_below w1 _
  have HYq : Hid (VarC wq w1.heap.size getC) := by rw [← hwq]; exact ⟨_, heap_alloc_new w1 _⟩
  have HBq : Hid (Below w.heap.size w wq) := hB1.trans (hBq.mono hB1.size)
  try simp only [hwq]
  clear hwq hB1 hBq
  go_upto_region 3 with (go_at_call 18; refine (HC1 _).mono ?_; rintro e w2 ⟨hB2, E1, rfl, HF1⟩)
  obtain ⟨wr, hwr⟩ : ∃ wr, w2.alloc (.cells #[.string ⟨#[]⟩, .int .i64 0, .int .i64 0, .bool false, .int .i64 0] 27) = wr := ⟨_, rfl⟩
  have hBr : Below w2.heap.size w2 wr := by rw [← hwr]; exact alloc_below w2 _
  have hqr : Below wq.heap.size wq wr := hB2.trans (hBr.mono hB2.size)
  have HBr : Hid (Below w.heap.size w wr) := HBq.out.trans (hqr.mono HBq.out.size)
  have HYr : Hid (VarC wr w1.heap.size getC) := HYq.out.keep hqr HYq.out.lt
  have HF1r : Hid (Flt wr E1 ⟨#[115, 101, 116]⟩ 2) := HF1.out.keep hBr
  try simp only [hwr]
  clear hwr hB2 hBr hqr HF1
  go_upto_region 4 with (go_at_call 18; refine (HC2 _).mono ?_; rintro e w3 ⟨hB3, E2, rfl, HF2⟩)
  obtain ⟨ws, hws⟩ : ∃ ws, w3.alloc (.cells #[.string ⟨#[]⟩, .int .i64 0, .int .i64 0, .bool false, .int .i64 0] 27) = ws := ⟨_, rfl⟩
  have hBs : Below w3.heap.size w3 ws := by rw [← hws]; exact alloc_below w3 _
  have hrs : Below wr.heap.size wr ws := hB3.trans (hBs.mono hB3.size)
  have HBs : Hid (Below w.heap.size w ws) := HBr.out.trans (hrs.mono HBr.out.size)
  have HYs : Hid (VarC ws w1.heap.size getC) := HYr.out.keep hrs HYr.out.lt
  have HF1s : Hid (Flt ws E1 ⟨#[115, 101, 116]⟩ 2) := HF1r.out.keep hrs
  have HF2s : Hid (Flt ws E2 ⟨#[110, 111, 115, 117, 99, 104]⟩ 3) := HF2.out.keep hBs
  have HGs : Hid (Laid ws) := HG.out.keep HBs.out HGL.out
  have HGl : Hid (0 < ws.heap.size) := Nat.lt_of_lt_of_le HGL.out HBs.out.size
  try simp only [hws]
  clear hws hB3 hBs hrs HF2
  obtain ⟨y0, y1, y2, y3, y4⟩ := HYs.out.cells
  simp only [getC] at y0 y1 y2 y3 y4
  go_wp2_with (first
    | (go_at_call 19; refine (HF2a.out.code HGa.out).mono ?_; rintro e wb ⟨rfl, hBb⟩; have HF2b : Hid (Flt wb E2 ⟨#[110, 111, 115, 117, 99, 104]⟩ 3) := HF2a.out.keep hBb; have HGb : Hid (Laid wb) := HGa.out.keep hBb HGla.out; have HBb : Hid (Below w.heap.size w wb) := HBa.out.trans (hBb.mono HBa.out.size); have HGlb : Hid (0 < wb.heap.size) := Nat.lt_of_lt_of_le HGla.out hBb.size; clear hBb)
    | (go_at_call 20; refine (HF2b.out.cmd HGb.out).mono ?_; rintro e wc ⟨rfl, hBc⟩; have HBc : Hid (Below w.heap.size w wc) := HBb.out.trans (hBc.mono HBb.out.size); clear hBc)
    | (go_at_call 19; refine (HF1s.out.code HGs.out).mono ?_; rintro e w5 ⟨rfl, hB5⟩; have HF15 : Hid (Flt w5 E1 ⟨#[115, 101, 116]⟩ 2) := HF1s.out.keep hB5; have HF25 : Hid (Flt w5 E2 ⟨#[110, 111, 115, 117, 99, 104]⟩ 3) := HF2s.out.keep hB5; have HG5 : Hid (Laid w5) := HGs.out.keep hB5 HGl.out; have HB5 : Hid (Below w.heap.size w w5) := HBs.out.trans (hB5.mono HBs.out.size); have HGl5 : Hid (0 < w5.heap.size) := Nat.lt_of_lt_of_le HGl.out hB5.size; clear hB5)
    | (go_at_call 20; refine (HF15.out.cmd HG5.out).mono ?_; rintro e wa ⟨rfl, hBa⟩; have HF2a : Hid (Flt wa E2 ⟨#[110, 111, 115, 117, 99, 104]⟩ 3) := HF25.out.keep hBa; have HGa : Hid (Laid wa) := HG5.out.keep hBa HGl5.out; have HBa : Hid (Below w.heap.size w wa) := HB5.out.trans (hBa.mono HB5.out.size); have HGla : Hid (0 < wa.heap.size) := Nat.lt_of_lt_of_le HGl5.out hBa.size; clear hBa))
  go_ret
  exact ⟨rfl, HBc.out⟩
end Go.Proofs.YtlapiaoopmhogaaDoor
