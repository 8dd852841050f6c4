/-
  The law's helpers: same, checks, known.
-/
import Derived.Test.YtlapiaoopmhogaaDoorRk
import Derived.Test.YtlapiaoopmhogaaDoorXLawEnd
namespace Go.Proofs.YtlapiaoopmhogaaDoor
open Go.RowKit Go.PlainAid

set_option maxRecDepth 100000 in
theorem same_yes (c : Cm) (w : World) : Calls Tryd.prog 10 #[c.v, c.v] w fun e w' => e = .returned (.bool true) ∧ Below w.heap.size w w' := by
  obtain ⟨nm, lo, hi, wb, gr⟩ := c
  have hb : Hid (∀ o o', Below w.heap.size w ((w.alloc o).alloc o')) := fun o o' => (alloc_below w o).trans ((alloc_below (w.alloc o) o').mono (alloc_below w o).size)
  show Calls Tryd.prog 10 #[.agg #[.string nm, .int .i64 lo, .int .i64 hi, .bool wb, .int .i64 gr], .agg #[.string nm, .int .i64 lo, .int .i64 hi, .bool wb, .int .i64 gr]] w _
  have h1 : (nm.toList == nm.toList) = true := beq_self_eq_true _
  have h2 : (lo == lo) = true := beq_self_eq_true _
  have h3 : (hi == hi) = true := beq_self_eq_true _
  have h4 : (wb == wb) = true := beq_self_eq_true _
  have h5 : (gr == gr) = true := beq_self_eq_true _
  go_enter Tryd.func10, Tryd.ntmps10
  go_wp2
  go_ret
  exact ⟨rfl, hb.out _ _⟩

set_option maxRecDepth 100000 in
set_option maxHeartbeats 4000000 in
theorem checks_any (a : Option Addr) (n c : Nat) (ls : List ByteArray) (w : World) (h : RdS w a n ls) (hz : ∀ s ∈ ls, s.size ≤ maxLen) (hg : Laid w) :
    Calls Tryd.prog 11 #[.slice a n c] w fun e w' => e = .returned (.bool true) ∧ Below w.heap.size w w' := by
  have HR : Hid (RdS w a n ls) := h
  have HG : Hid (Laid w) := hg
  have hgl := lt_of_cell? hg
  have HGL : Hid (0 < w.heap.size) := hgl
  have HC := Check_any a n c ls w h
  have HRC := fun w h => rCheck_any a n c ls w h hz
  have HSm := fun w => same_yes (cP ls) w
  obtain ⟨NM, hNM⟩ : ∃ x, nameP ls = x := ⟨_, rfl⟩
  have HZ : Hid (¬ whyP ls = 0 → cP ls = Cm.z) := fun h => by rw [cP, if_neg h]
  unfold ChkP at HC
  obtain ⟨why, hwhy⟩ : ∃ x, whyP ls = x := ⟨_, rfl⟩
  obtain ⟨C, hC⟩ : ∃ x, cP ls = x := ⟨_, rfl⟩
  rw [hNM, hwhy, hC] at HC
  rw [hwhy, hC] at HZ
  rw [hC] at HSm
  simp only [hNM, hwhy, hC] at HRC
  clear h hz hg hgl hNM hwhy hC
  obtain ⟨nm, lo, hi, wb, gr⟩ := C
  go_enter Tryd.func11, Tryd.ntmps11
  go_upto_region 1 with fail
  by_cases hw : why = 0
  · subst hw
    go_upto_region 2 with (go_at_call 18; refine HC.mono ?_; rintro e w1 ⟨hB1, hor⟩; obtain ⟨-, rfl⟩ : (0 : Int) = 0 ∧ e = .returned (.tuple #[Cm.v ⟨nm, lo, hi, wb, gr⟩, .nilIface]) := hor.elim id (fun h => absurd rfl h.1); simp only [Cm.v])
    obtain ⟨wq, hwq⟩ : ∃ wq, w1.alloc (.cells #[.string nm, .int .i64 lo, .int .i64 hi, .bool wb, .int .i64 gr] 27) = wq := ⟨_, rfl⟩
    have hBq : Below w1.heap.size w1 wq := by rw [← hwq]; exact alloc_below w1 _
    have HYq : Hid (VarC wq w1.heap.size ⟨nm, lo, hi, wb, gr⟩) := by rw [← hwq]; exact ⟨_, heap_alloc_new w1 _⟩
    have hb1q : Below w.heap.size w wq := hB1.trans (hBq.mono hB1.size)
    have HBq : Hid (Below w.heap.size w wq) := hb1q
    try simp only [hwq]
    clear hwq
    go_upto_region 3 with (go_at_call 26; refine (HRC _ (HR.out.keep hb1q)).mono ?_; rintro e w2 ⟨rfl, hB2⟩; simp only [Cm.v])
    obtain ⟨wr, hwr⟩ : ∃ wr, w2.alloc (.cells #[.string nm, .int .i64 lo, .int .i64 hi, .bool wb, .int .i64 gr] 30) = wr := ⟨_, rfl⟩
    have hBr : Below w2.heap.size w2 wr := by rw [← hwr]; exact alloc_below w2 _
    have HXr : Hid (VarC wr w2.heap.size ⟨nm, lo, hi, wb, gr⟩) := by rw [← hwr]; exact ⟨_, heap_alloc_new w2 _⟩
    have hqr : Below wq.heap.size wq wr := hB2.trans (hBr.mono hB2.size)
    have HYr : Hid (VarC wr w1.heap.size ⟨nm, lo, hi, wb, gr⟩) := HYq.out.keep hqr HYq.out.lt
    have HBr : Hid (Below w.heap.size w wr) := HBq.out.trans (hqr.mono HBq.out.size)
    try simp only [hwr]
    clear hwr hb1q
    obtain ⟨y0, y1, y2, y3, y4⟩ := HYr.out.cells
    obtain ⟨x0, x1, x2, x3, x4⟩ := HXr.out.cells
    simp only at y0 y1 y2 y3 y4 x0 x1 x2 x3 x4
    clear hB1 hBq hB2 hBr hqr
    go_wp2_with (go_at_call 10; refine (HSm _).mono ?_; rintro e w3 ⟨rfl, hB3⟩)
    go_ret
    exact ⟨rfl, HBr.out.trans (hB3.mono HBr.out.size)⟩
  · have hCz := HZ.out hw
    rw [hCz] at HC HSm HRC
    have hne : (why != 0) = true := by simpa using hw
    go_upto_region 2 with (go_at_call 18; refine HC.mono ?_; rintro e w1 ⟨hB1, hor⟩; obtain ⟨-, E, rfl, hF⟩ : ¬ why = 0 ∧ ∃ E, e = .returned (.tuple #[Cm.z.v, E]) ∧ Flt w1 E NM why := hor.elim (fun h => absurd h.1 hw) id; have HF1 : Hid (Flt w1 E NM why) := hF; clear hor hF; simp only [Cm.v, Cm.z])
    obtain ⟨wq, hwq⟩ : ∃ wq, w1.alloc (.cells #[.string ⟨#[]⟩, .int .i64 0, .int .i64 0, .bool false, .int .i64 0] 27) = wq := ⟨_, rfl⟩
    have hBq : Below w1.heap.size w1 wq := by rw [← hwq]; exact alloc_below w1 _
    have HYq : Hid (VarC wq w1.heap.size Cm.z) := by rw [← hwq]; exact ⟨_, heap_alloc_new w1 _⟩
    have hb1q : Below w.heap.size w wq := hB1.trans (hBq.mono hB1.size)
    have HBq : Hid (Below w.heap.size w wq) := hb1q
    try simp only [hwq]
    clear hwq
    go_upto_region 3 with (go_at_call 26; refine (HRC _ (HR.out.keep hb1q)).mono ?_; rintro e w2 ⟨rfl, hB2⟩; simp only [Cm.v, Cm.z])
    obtain ⟨wr, hwr⟩ : ∃ wr, w2.alloc (.cells #[.string ⟨#[]⟩, .int .i64 0, .int .i64 0, .bool false, .int .i64 0] 30) = wr := ⟨_, rfl⟩
    have hBr : Below w2.heap.size w2 wr := by rw [← hwr]; exact alloc_below w2 _
    have HXr : Hid (VarC wr w2.heap.size Cm.z) := by rw [← hwr]; exact ⟨_, heap_alloc_new w2 _⟩
    have hqr : Below wq.heap.size wq wr := hB2.trans (hBr.mono hB2.size)
    have HYr : Hid (VarC wr w1.heap.size Cm.z) := HYq.out.keep hqr HYq.out.lt
    have HBr : Hid (Below w.heap.size w wr) := HBq.out.trans (hqr.mono HBq.out.size)
    try simp only [hwr]
    clear hwr hb1q
    obtain ⟨y0, y1, y2, y3, y4⟩ := HYr.out.cells
    obtain ⟨x0, x1, x2, x3, x4⟩ := HXr.out.cells
    simp only [Cm.z] at y0 y1 y2 y3 y4 x0 x1 x2 x3 x4
    have HFr : Hid (Flt wr E NM why) := (HF1.out.keep hBq).keep hqr
    have HGr : Hid (Laid wr) := HG.out.keep HBr.out HGL.out
    have HGl : Hid (0 < wr.heap.size) := Nat.lt_of_lt_of_le HGL.out HBr.out.size
    clear hB1 hBq hB2 hBr hqr HF1
    obtain ⟨gE, hE, -⟩ := HFr.out.ex
    subst hE
    have HSz : ∀ w, Calls Tryd.prog 10 #[.agg #[.string ⟨#[]⟩, .int .i64 0, .int .i64 0, .bool false, .int .i64 0], .agg #[.string ⟨#[]⟩, .int .i64 0, .int .i64 0, .bool false, .int .i64 0]] w fun e w' => e = .returned (.bool true) ∧ Below w.heap.size w w' := HSm
    have hbe : (NM.toList == NM.toList) = true := beq_self_eq_true _
    have hwe : (why == why) = true := beq_self_eq_true _
    go_wp2_with (first
      | (go_at_call 10; refine (HSz _).mono ?_; rintro e w3 ⟨rfl, hB3⟩; have HF3 : Hid (Flt w3 _ NM why) := HFr.out.keep hB3; have HG3 : Hid (Laid w3) := HGr.out.keep hB3 HGl.out; have HB3 : Hid (Below w.heap.size w w3) := HBr.out.trans (hB3.mono HBr.out.size); have HGl3 : Hid (0 < w3.heap.size) := Nat.lt_of_lt_of_le HGl.out hB3.size; clear hB3)
      | (go_at_call 19; refine (HF3.out.code HG3.out).mono ?_; rintro e w4 ⟨rfl, hB4⟩; have HF4 : Hid (Flt w4 _ NM why) := HF3.out.keep hB4; have HG4 : Hid (Laid w4) := HG3.out.keep hB4 HGl3.out; have HB4 : Hid (Below w.heap.size w w4) := HB3.out.trans (hB4.mono HB3.out.size); clear hB4)
      | (go_at_call 20; refine (HF4.out.cmd HG4.out).mono ?_; rintro e w5 ⟨rfl, hB5⟩; have HB5 : Hid (Below w.heap.size w w5) := HB4.out.trans (hB5.mono HB4.out.size); clear hB5))
    go_ret
    exact ⟨rfl, HB5.out⟩
end Go.Proofs.YtlapiaoopmhogaaDoor
