/-
  Args: a command of any group, as it is drawn.
-/
import Derived.Test.YtlapiaoopmhogaaDoorAg
import Derived.Test.YtlapiaoopmhogaaDoorGd
import Derived.Deep.CutRange
namespace Go.Proofs.YtlapiaoopmhogaaDoor
open Go.RowKit Go.PlainAid

/-- Words that were handed in. -/
def RdW (w : World) (a : Option Addr) (n : Nat) : Prop := n ≤ maxLen ∧ ∀ j, j < n → ∃ b off N S, a = some ⟨b, off, none⟩ ∧ w.cell? ⟨b, off + j * 2, none⟩ = some (.int .i64 N) ∧ w.cell? ⟨b, off + j * 2 + 1, none⟩ = some (.string S)
theorem RdW.keep {w wn : World} {a : Option Addr} {n : Nat} (h : RdW w a n) (hb : Below w.heap.size w wn) : RdW wn a n :=
  ⟨h.1, fun j hj => by
    obtain ⟨b, off, N, S, e, h1, h2⟩ := h.2 j hj
    exact ⟨b, off, N, S, e, by rw [hb.cell (p := ⟨b, off + j * 2, none⟩) (World.block_lt_of_cell? _ _ h1)]; exact h1, by rw [hb.cell (p := ⟨b, off + j * 2 + 1, none⟩) (World.block_lt_of_cell? _ _ h2)]; exact h2⟩⟩
/-- A row of few short texts, of the call's own. -/
structure Lst (w : World) (B : Nat) (a : Option Addr) (n c : Nat) (ls : List ByteArray) : Prop where
  own : OwnT w B 1 a n c (ls.map Value.string)
  sz : ∀ s ∈ ls, s.size ≤ 100
  pos : 1 ≤ n
theorem Lst.keep {w wn : World} {B : Nat} {a : Option Addr} {n c : Nat} {ls : List ByteArray} (h : Lst w B a n c ls) (hb : Below w.heap.size w wn) : Lst wn B a n c ls := ⟨h.own.keep hb, h.sz, h.pos⟩
theorem Lst.push {w : World} {B : Nat} {a a2 : Option Addr} {n n2 c c2 : Nat} {ls : List ByteArray} {t : ByteArray} {w2 : World} (h : Lst w B a n c ls) (ho : OwnT w2 B 1 a2 n2 c2 (ls.map Value.string ++ [.string t])) (hn : n2 = n + 1) (ht : t.size ≤ 100) : Lst w2 B a2 n2 c2 (ls ++ [t]) :=
  ⟨by rw [List.map_append]; exact ho, fun s hs => by
    rcases List.mem_append.1 hs with h1 | h1
    · exact h.sz s h1
    · rw [List.mem_singleton.1 h1]; exact ht, by have := h.pos; omega⟩
theorem Lst.cut {w : World} {B : Nat} {a : Option Addr} {n c : Nat} {ls : List ByteArray} (h : Lst w B a n c ls) {k : Nat} (h1 : 1 ≤ k) (hk : k ≤ n) : Lst w B a k c (ls.take k) :=
  ⟨by have := h.own.cut hk; rw [Nat.mul_one] at this; rw [List.map_take]; exact this, fun s hs => h.sz s (List.mem_of_mem_take hs), h1⟩
theorem Lst.one {w : World} {B g : Nat} {t : ByteArray} {ty : TypeId} (h : w.heap[g]? = some (.cells #[.string t] ty (0, 0))) (hg : B ≤ g) (ht : t.size ≤ 100) : Lst w B (some ⟨g, 0, none⟩) 1 1 [t] :=
  ⟨⟨rfl, .inr ⟨g, _, ty, rfl, hg, h, Nat.le_refl _, by decide, rfl, rfl⟩⟩, fun s hs => by rw [List.mem_singleton.1 hs]; exact ht, Nat.le_refl _⟩
theorem Lst.rd {w : World} {B : Nat} {a : Option Addr} {n c : Nat} {ls : List ByteArray} (h : Lst w B a n c ls) : RdS w a n ls := by
  have hl : ls.length = n := by have := h.own.1; rw [List.length_map] at this; omega
  refine ⟨hl, Nat.le_trans h.own.cap.1 h.own.cap.2, fun j hj => ?_⟩
  obtain ⟨g, e, hc⟩ := h.own.at (by omega)
  refine ⟨g, 0, e, ?_⟩
  rw [Nat.zero_add]
  refine hc j _ ?_
  rw [List.getElem?_map, List.getD_eq_getElem?_getD, List.getElem?_eq_getElem (by omega)]
  rfl
theorem one1 (t : ByteArray) : ∀ u ∈ [Value.string t], u.oneCell' = true := by simp [Value.oneCell']
theorem sub_byte (X : UInt8) : ∃ b : UInt8, IntKind.u8.wrap ((X.toNat : Int) - 32) = (b.toNat : Int) := by
  have h := X.toNat_lt
  refine ⟨UInt8.ofNat ((X.toNat + 224) % 256), ?_⟩
  rw [UInt8.toNat_ofNat', IntKind.wrap_u8]
  omega
theorem Tryd.size9s (w : World) : (sizeOf 9).run Tryd.prog w = .ok 1 w := by go_simp
theorem Tryd.elem24s : Tryd.prog.elem 24 = 9 := by simp [Program.elem, Tryd.underlying24]
theorem OwnS_slice {w : World} {B : Nat} {a : Option Addr} {n c : Nat} {cs : List Value} (h : OwnT w B 1 a n c cs) {k : Nat} (h1 : 1 ≤ k) (hk : k ≤ n) : ∀ wx, (Instr.sliceAt 24 (.slice a n c) none (some (.int .i64 k)) none).run Tryd.prog wx = .ok (.slice a k c) wx := fun wx => by
  obtain ⟨g, rfl, -⟩ := h.at (by omega)
  have hc := h.cap
  have ht : Tryd.prog.underlying 24 = some (.slice (Tryd.prog.elem 24)) := by rw [Tryd.elem24s]; exact Tryd.underlying24
  rw [run_sliceAt_slice _ _ _ _ _ _ ht, run_slice_h (P := Tryd.prog) wx 24 _ n c ht .i64 k (by omega) (by omega), Tryd.elem24s, Tryd.size9s]
  have hne : ¬ c = 0 := by omega
  simp [Result.andThen, sliced, hne, add_flat]
def OneC (c : Cm) : Prop := ∀ u ∈ ccells [c], u.oneCell' = true
def fullB : Bool := refs.all fun c => decide (0 < c.nm.size) && (decide (c.lo ≤ 8) && decide (c.hi ≤ 256))
theorem fullB_yes : fullB = true := by kernel_rfl
theorem full_row {c : Cm} (h : c ∈ refs) : 0 < c.nm.size ∧ c.lo ≤ 8 ∧ c.hi ≤ 256 := by
  have h1 := List.all_eq_true.1 fullB_yes c h
  simpa only [Bool.and_eq_true, decide_eq_true_eq] using h1

set_option maxRecDepth 100000 in
set_option maxHeartbeats 8000000 in
theorem Args_any (wh : Int) (wa : Option Addr) (wn wk : Nat) (ft up : Bool) (w : World) (h : RdW w wa wn) :
    Calls Tryd.prog 14 #[.agg #[.int .i64 wh, .slice wa wn wk, .bool ft, .bool up], .int .i64 0] w fun e w' => Below w.heap.size w w' ∧ ∃ a n c ls, e = .returned (.slice a n c) ∧ Hid (Lst w' w.heap.size a n c ls) ∧ n ≤ 300 := by
  have HW : Hid (RdW w wa wn) := h
  have hwn : wn ≤ 9223372036854775807 := h.1
  clear h
  obtain ⟨w0, hw0⟩ : ∃ w0, w.alloc (.cells #[.int .i64 wh, .slice wa wn wk, .bool ft, .bool up] 37) = w0 := ⟨_, rfl⟩
  have hb0 : Below w.heap.size w w0 := by rw [← hw0]; exact alloc_below w _
  have HB0 : Hid (Below w.heap.size w w0) := hb0
  have HAk : Hid (∀ wx, Below w0.heap.size w0 wx → wx.cell? ⟨w.heap.size, 0, none⟩ = some (.int .i64 wh) ∧ wx.cell? ⟨w.heap.size, 1, none⟩ = some (.slice wa wn wk) ∧ wx.cell? ⟨w.heap.size, 2, none⟩ = some (.bool ft) ∧ wx.cell? ⟨w.heap.size, 3, none⟩ = some (.bool up)) := fun wx h => by
    have hl : w.heap.size < w0.heap.size := by rw [← hw0]; exact alloc_lt w _ _
    have hh : ∀ i v, (#[Value.int .i64 wh, .slice wa wn wk, .bool ft, .bool up] : Array Value)[i]? = some v → wx.cell? ⟨w.heap.size, i, none⟩ = some v := fun i v hv => by
      rw [h.cell (p := ⟨w.heap.size, i, none⟩) hl, ← hw0]
      exact cell_new w _ _ i v hv
    exact ⟨hh 0 _ rfl, hh 1 _ rfl, hh 2 _ rfl, hh 3 _ rfl⟩
  obtain ⟨B, hB⟩ : ∃ B, w.heap.size = B := ⟨_, rfl⟩
  rw [hB] at HB0 HAk
  have HBw : Hid (B ≤ w0.heap.size) := by show _ ≤ _; rw [← hB]; exact HB0.out.size
  have HBe : Hid (w.heap.size = B) := hB
  have HW0 : Hid (RdW w0 wa wn) := HW.out.keep hb0
  go_enter Tryd.func14, Tryd.ntmps14
  go_upto_region 1 with fail
  try simp only [hw0]
  try simp only [hB]
  clear hw0 hB hb0 HW
  go_upto_region 4 with (go_at_call 7; refine (All_any _).mono ?_; rintro e w1 ⟨hB1, ra, rc, rfl, hO1⟩; have HB1 : Hid (Below w0.heap.size w0 w1) := hB1; have HO1 : Hid (OwnC w1 w0.heap.size ra 81 rc refs) := hO1; clear hB1 hO1)
  have HOn : Hid (OwnC w1 w1.heap.size none 0 0 (refs.take 0)) := OwnT.nil w1 _ 5
  have HZ1 : Hid (B ≤ w1.heap.size) := Nat.le_trans HBw.out HB1.out.size
  go_loopg [5, 7] 81 (fun g ov iv wr => ∃ (k : Nat) (a : Option Addr) (n c : Nat), k + g = 81 ∧ iv = .int .i64 k ∧ ov = .slice a n c ∧ Hid (OwnC wr w1.heap.size a n c (refs.take k)) ∧ Hid (Below w1.heap.size w1 wr))
  case atStart => exact ⟨0, none, 0, 0, rfl, rfl, rfl, HOn, Below.refl _ _⟩
  case round =>
    obtain ⟨k, a, n, c, hk, rfl, rfl, HO, HB⟩ := hrel
    clear HOn
    by_cases h1 : (k : Int) < 81
    · obtain ⟨cm, hc⟩ := getElem_some refs_len (show k < 81 by omega)
      obtain ⟨g, rfl, s0, s1, s2, s3, s4⟩ := OwnC.cells (OwnT.keep HO1.out HB.out) hc
      have HS : Hid (refs.take (k + 1) = refs.take k ++ [cm]) := by show _ = _; rw [List.take_add_one, hc]; rfl
      have HNk : Hid (n = k) := by have := OwnC.len HO.out; rw [List.length_take, refs_len] at this; show _ = _; omega
      have HOk : Hid (OneC cm) := ccells_one [cm]
      clear hc
      obtain ⟨nm, lo, hi, wb, gr⟩ := cm
      simp only at s0 s1 s2 s3 s4
      have hb1 : (n + 1) * 48 ≤ 140737488355328 := by have := HNk.out; omega
      have hm1 : n + 1 ≤ maxLen := by have := HNk.out; unfold maxLen; omega
      have hz1 : w1.heap.size ≤ (wr.alloc (.cells #[.string nm, .int .i64 lo, .int .i64 hi, .bool wb, .int .i64 gr] 30)).heap.size := Nat.le_trans HB.out.size (alloc_below wr _).size
      have HZb := hz1
      clear hz1
      go_wp2_with (at_builtin; refine append_t rfl (.tmp 30) (.tmp 35) rfl eltRC w1.heap.size rfl (HO.out.keep (alloc_below wr _)) [.string nm, .int .i64 lo, .int .i64 hi, .bool wb, .int .i64 gr] rfl rfl (fun h => by cases h) (cells_new rfl) HOk.out hb1 hm1 HZb ?_; intro a2 n2 c2 w2 hn2 HO2 HB2; replace HB2 : Hid (Below w1.heap.size w1 w2) := (HB.out.trans ((alloc_below wr _).mono HB.out.size)).trans HB2.out)
      have HOm : Hid (OwnC w2 w1.heap.size a2 (n + 1) c2 (refs.take (k + 1))) := by
        have h := HO2.out
        rw [hn2] at h
        rw [HS.out]
        show OwnT _ _ _ _ _ _ _
        rw [ccells_append]
        exact h
      go_roundg (gk - 1)
      case measure => omega
      case rel => exact ⟨k + 1, a2, n + 1, c2, by omega, by go_num, rfl, HOm, HB2⟩
    · have hE : refs.take k = refs := List.take_of_length_le (by rw [refs_len]; omega)
      rw [hE] at HO
      have hn : n = 81 := by rw [← OwnC.len HO.out, refs_len]
      subst hn
      have HB2 : Hid (Below w0.heap.size w0 wr) := HB1.out.trans (HB.out.mono HB1.out.size)
      clear hE
      obtain ⟨y0, y1, y2, y3⟩ := HAk.out _ HB2.out
      have HWi := fun w => Within_any wh 0 1048576 w (by omega) (by omega) (by omega)
      obtain ⟨gn, rfl, -⟩ := OwnT.at HO.out (by decide)
      have HCr : Hid (∀ (r : Nat) (cm : Cm), refs[r]? = some cm → wr.cell? ⟨gn, r * 5, none⟩ = some (.string cm.nm) ∧ wr.cell? ⟨gn, r * 5 + 1, none⟩ = some (.int .i64 cm.lo) ∧ wr.cell? ⟨gn, r * 5 + 2, none⟩ = some (.int .i64 cm.hi) ∧ wr.cell? ⟨gn, r * 5 + 3, none⟩ = some (.bool cm.wr) ∧ wr.cell? ⟨gn, r * 5 + 4, none⟩ = some (.int .i64 cm.gr)) := fun r cm h => (OwnC.cells HO.out h).elim fun g' h => by
        obtain ⟨e, h⟩ := h
        cases e
        exact h
      go_upto_region 11 with (go_at_call 28; refine (HWi _).mono ?_; rintro e wz ⟨rfl, z, hz0, hz1, rfl⟩; obtain ⟨zn, rfl⟩ := Int.eq_ofNat_of_zero_le hz0; obtain ⟨r, hr⟩ : ∃ r, zn % 81 = r := ⟨_, rfl⟩; have hr81 : r < 81 := (by omega); have hmod : (zn : Int) % 81 = (r : Int) := (by omega); have hri : (r : Int) < 81 := (by omega); obtain ⟨cm, hcm⟩ := getElem_some refs_len hr81; have hmem : cm ∈ refs := List.mem_of_getElem? hcm; have hcl := HCr.out r cm hcm; obtain ⟨nm, lo, hi, wb, gr⟩ := cm; obtain ⟨s0, s1, s2, s3, s4⟩ := hcl; simp only at s0 s1 s2 s3 s4; clear hz0 hz1 hr)
      have HGd := good_row hmem
      have HFl := full_row hmem
      obtain ⟨w4, hw4⟩ : ∃ w4, wz.alloc (.cells #[.string nm, .int .i64 lo, .int .i64 hi, .bool wb, .int .i64 gr] 30) = w4 := ⟨_, rfl⟩
      have hb4 : Below wz.heap.size wz w4 := by rw [← hw4]; exact alloc_below wz _
      have hv4 : VarC w4 wz.heap.size ⟨nm, lo, hi, wb, gr⟩ := by rw [← hw4]; exact ⟨_, heap_alloc_new wz _⟩
      have h04 : Below w0.heap.size w0 w4 := HB2.out.trans (hb4.mono HB2.out.size)
      have HX : Hid (∀ wx, Below w4.heap.size w4 wx → (wx.cell? ⟨B, 0, none⟩ = some (.int .i64 wh) ∧ wx.cell? ⟨B, 1, none⟩ = some (.slice wa wn wk) ∧ wx.cell? ⟨B, 2, none⟩ = some (.bool ft) ∧ wx.cell? ⟨B, 3, none⟩ = some (.bool up)) ∧ VarC wx wz.heap.size ⟨nm, lo, hi, wb, gr⟩ ∧ RdW wx wa wn ∧ Below B w wx ∧ B ≤ wx.heap.size) := fun wx h => by
        have h0 := h04.trans (h.mono h04.size)
        have hB := HB0.out.trans (h0.mono HBw.out)
        exact ⟨HAk.out _ h0, hv4.keep h hv4.lt, HW0.out.keep h0, hB, Nat.le_trans HBw.out h0.size⟩
      have HZ4 : Hid (B ≤ w4.heap.size) := Nat.le_trans HBw.out h04.size
      obtain ⟨gc, hgc⟩ : ∃ gc, wz.heap.size = gc := ⟨_, rfl⟩
      rw [hgc] at HX
      try simp only [hw4, hgc]
      obtain ⟨⟨x0, x1, x2, x3⟩, hvx, -⟩ := HX.out w4 (Below.refl _ _)
      have hBlt : B < w4.heap.size := World.block_lt_of_cell? _ _ x0
      have hgclt : gc < w4.heap.size := hvx.lt
      obtain ⟨v0, v1, v2, v3, v4⟩ := hvx.cells
      simp only at v0 v1 v2 v3 v4
      have HGd : Hid (1 ≤ lo ∧ lo ≤ hi ∧ nm.size ≤ 100 ∧ 0 < nm.size ∧ lo ≤ 8 ∧ hi ≤ 256) := ⟨HGd.1, HGd.2.1, HGd.2.2.2.2, HFl.1, HFl.2.1, HFl.2.2⟩
      clear hw4 hgc hb4 hv4 h04 hvx HFl HCr HO HB HB1 HO1 HB2 HZ1 hmem hcm s0 s1 s2 s3 s4 y0 y1 y2 y3 HWi
      go_upto_if 53 with fail
      go_cut [9, 10] from 12 (fun o bv wx => ∃ a c ls, o = .slice a 1 c ∧ Hid (Lst wx w4.heap.size a 1 c ls) ∧ Hid (Below w4.heap.size w4 wx))
      case first =>
        have hl1 : Lst (w4.alloc (.cells #[.string nm] 9)) w4.heap.size (some ⟨w4.heap.size, 0, none⟩) 1 1 [nm] := Lst.one (heap_alloc_new w4 _) (Nat.le_refl _) HGd.out.2.2.1
        have HL1 : Hid _ := hl1
        cases up with
        | false =>
          go_wp2
          go_meet
          exact ⟨_, _, _, rfl, HL1.out, alloc_below w4 _⟩
        | true =>
          obtain ⟨cE, W2, hcv, hB2, hlt, hRow⟩ := conv_row (w4.alloc (.cells #[.string nm] 9)) nm (by have := HGd.out.2.2.1; unfold maxLen; omega)
          have hs1 : (w4.alloc (.cells #[.string nm] 9)).heap.size = w4.heap.size + 1 := by simp
          rw [hs1] at hcv hRow hB2
          have hnm0 : 0 < nm.size := HGd.out.2.2.2.1
          have hnmi : (0 : Int) < nm.size := by omega
          obtain ⟨bx, hbx⟩ := sub_byte ((lst nm).getD 0 0)
          have hc0 := hRow.cell 0 hnm0
          have hf0 := hRow.free 0 (Nat.lt_of_lt_of_le hnm0 hRow.fit)
          obtain ⟨X, hX⟩ : ∃ X, (((lst nm).getD 0 0).toNat : Int) = X := ⟨_, rfl⟩
          rw [hX] at hc0 hbx
          obtain ⟨BX, hBX⟩ : ∃ BX : Int, ((bx.toNat : Nat) : Int) = BX := ⟨_, rfl⟩
          rw [hBX] at hbx
          have hSet := hRow.set 0 hnm0 bx BX hBX.symm
          have hfit := hRow.fit
          have hmx := hRow.max
          have hB42 : Below w4.heap.size w4 W2 := (alloc_below w4 _).trans (hB2.mono (Nat.le_succ _))
          have hB4s : Below w4.heap.size w4 (W2.setCell ⟨w4.heap.size + 1, 0, none⟩ (.int .u8 BX)) := hB42.setCell (Nat.le_succ _) _
          have htx := hSet.rd.text
          obtain ⟨T, hT⟩ : ∃ T, bs ((lst nm).set 0 bx) = T := ⟨_, rfl⟩
          have HTs : Hid (T.size ≤ 100) := by show _ ≤ _; rw [← hT, size_bs, List.length_set, len_lst]; exact HGd.out.2.2.1
          rw [hT] at htx
          obtain ⟨W3, hW3⟩ : ∃ W3, W2.setCell ⟨w4.heap.size + 1, 0, none⟩ (.int .u8 BX) = W3 := ⟨_, rfl⟩
          rw [hW3] at htx hB4s
          have HB4s : Hid (Below w4.heap.size w4 W3) := hB4s
          have HLT : Hid (Lst (W3.alloc (.cells #[.string T] 9)) w4.heap.size (some ⟨W3.heap.size, 0, none⟩) 1 1 [T]) := Lst.one (heap_alloc_new W3 _) hB4s.size HTs.out
          clear hRow hSet hB2 hlt hs1 hX hBX hT hB42 hB4s HL1 hl1
          go_wp2
          go_meet
          exact ⟨_, _, _, rfl, HLT, HB4s.out.trans ((alloc_below W3 _).mono HB4s.out.size)⟩
      case rest =>
        obtain ⟨a, c, ls, rfl, HL5, HB5⟩ := hcut
        clear x0 x1 x2 x3 v0 v1 v2 v3 v4
        have HN1 : Hid (1 ≤ 1 + 0) := Nat.le_refl _
        go_upto_region 17 with fail
        go_loopg [9, 11] 9 (fun g ov iv wr => ∃ (i : Nat) (a : Option Addr) (n c : Nat) (ls : List ByteArray), i + g = 9 ∧ iv = .int .i64 i ∧ ov = .slice a n c ∧ Hid (Lst wr w4.heap.size a n c ls) ∧ Hid (n ≤ 1 + i) ∧ Hid (Below w4.heap.size w4 wr))
        case atStart => exact ⟨0, a, 1, c, ls, rfl, rfl, rfl, HL5, HN1, HB5⟩
        case round =>
          obtain ⟨i, a, n, c, ls, hix, rfl, rfl, HL, HNn, HB⟩ := hrel
          clear HL5 HB5 HN1
          obtain ⟨⟨x0, x1, x2, x3⟩, hvx, hwx, -⟩ := HX.out _ HB.out
          have HWx : Hid (RdW wr wa wn) := hwx
          obtain ⟨v0, v1, v2, v3, v4⟩ := hvx.cells
          simp only at v0 v1 v2 v3 v4
          clear hvx hwx
          have hi9 : i ≤ 9 := by omega
          go_upto_region 17 with fail
          go_cut [74] from 66 to 85 (fun u wx => ∃ bb : Bool, u = .bool bb ∧ wx = wr ∧ Hid (bb = true → i < wn ∧ i < 9))
          case first =>
            by_cases h1 : (i : Int) < wn
            · by_cases h2 : (i : Int) < 9
              · go_wp2
                go_meet
                exact ⟨true, rfl, rfl, fun _ => by omega⟩
              · go_wp2
                go_meet
                exact ⟨false, rfl, rfl, fun e => by cases e⟩
            · go_wp2
              go_meet
              exact ⟨false, rfl, rfl, fun e => by cases e⟩
          case rest =>
            obtain ⟨bb, rfl, rfl, HT⟩ := hcut
            cases bb with
            | true =>
              have hin : i < wn := (HT.out rfl).1
              have hini : (i : Int) < wn := by omega
              have hin9 : i < 9 := (HT.out rfl).2
              obtain ⟨b, off, N, S, rfl, p0, p1⟩ := HWx.out.2 i hin
              have HOf := fun w => Of_any N S w
              have hb1 : (n + 1) * 16 ≤ 140737488355328 := by have := HNn.out; omega
              have hm1 : n + 1 ≤ maxLen := by have := HNn.out; unfold maxLen; omega
              clear HT HWx
              go_wp2_with (first
                | (go_at_call 29; refine (HOf _).mono ?_; rintro e w6 ⟨hB6, t, rfl, HTs⟩; have HL6 : Hid (Lst (w6.alloc (.cells #[.string t] 9)) w4.heap.size a n c ls) := (HL.out.keep hB6).keep (alloc_below w6 _); have HB6 : Hid (Below w4.heap.size w4 (w6.alloc (.cells #[.string t] 9))) := (HB.out.trans (hB6.mono HB.out.size)).trans ((alloc_below w6 _).mono (Nat.le_trans HB.out.size hB6.size)); clear hB6)
                | (at_builtin; refine append_t rfl (.tmp 77) (.tmp 84) rfl eltS w4.heap.size rfl HL6.out.own [.string t] rfl rfl (fun h => by cases h) (cells_new rfl) (one1 t) hb1 hm1 HB6.out.size ?_; intro a7 n7 c7 w7 hn7 HO7 HB7; have HL7 : Hid (Lst w7 w4.heap.size a7 n7 c7 (ls ++ [t])) := HL6.out.push HO7.out hn7 HTs.out; have HB7x : Hid (Below w4.heap.size w4 w7) := HB6.out.trans HB7.out; have HN7 : Hid (n7 ≤ 1 + (i + 1)) := (by have := HNn.out; show _ ≤ _; omega)))
              go_roundg (gk - 1)
              case measure => omega
              case rel => exact ⟨i + 1, a7, n7, c7, _, by omega, by go_num, by rw [hn7], HL7, HN7, HB7x⟩
            | false =>
              have hn10 : n ≤ 10 := by have := HNn.out; omega
              clear HT HNn HWx
              cases ft with
              | false =>
                go_wp2
                go_ret
                obtain ⟨-, -, -, hbx, -⟩ := HX.out _ HB.out
                rw [← HBe.out] at hbx
                have hll : Hid (Lst wc w.heap.size a n c ls) := ⟨HL.out.own.low (by rw [HBe.out]; exact HZ4.out), HL.out.sz, HL.out.pos⟩
                have hnn : n ≤ 300 := by omega
                first
                  | exact ⟨hbx, a, n, c, ls, rfl, hll, hnn⟩
                  | exact ⟨hbx, a, n, c, rfl, ⟨ls, hll⟩, hnn⟩
              | true =>
                go_upto_region 22 with fail
                go_loopg [9] (8 - n) (fun g ov wr => ∃ (a : Option Addr) (n c : Nat) (ls : List ByteArray), g = 8 - n ∧ ov = .slice a n c ∧ Hid (Lst wr w4.heap.size a n c ls) ∧ n ≤ 10 ∧ Hid (Below w4.heap.size w4 wr))
                case atStart => exact ⟨a, n, c, ls, rfl, rfl, HL, hn10, HB⟩
                case round =>
                  obtain ⟨a, n, c, ls, hg, rfl, HL, hn10, HB⟩ := hrel
                  obtain ⟨-, hvx, -⟩ := HX.out _ HB.out
                  have HVr : Hid (VarC wr gc ⟨nm, lo, hi, wb, gr⟩) := hvx
                  obtain ⟨v0, v1, v2, v3, v4⟩ := hvx.cells
                  simp only at v0 v1 v2 v3 v4
                  clear hvx
                  by_cases hlo : (n : Int) < lo
                  · have hl8 : lo ≤ 8 := HGd.out.2.2.2.2.1
                    obtain ⟨r6, hr6⟩ : ∃ r6, n % 6 = r6 := ⟨_, rfl⟩
                    have hm6 : (n : Int) % 6 = (r6 : Int) := by omega
                    have hr6a : r6 < 40 := by omega
                    have hr6i : (r6 : Int) < 40 := by omega
                    have hb1 : (n + 1) * 16 ≤ 140737488355328 := by omega
                    have hm1 : n + 1 ≤ maxLen := by unfold maxLen; omega
                    have HTs : Hid ((tb40.getD r6 ByteArray.empty).size ≤ 100) := Nat.le_trans (tb40_at r6) (by decide)
                    have HTb : ∀ w, Calls Tryd.prog 30 #[] w fun e w' => e = .returned (.slice (some ⟨w.heap.size, 0, none⟩) 40 40) ∧ w'.cell? ⟨w.heap.size, r6, none⟩ = some (.string (tb40.getD r6 ByteArray.empty)) ∧ Hid (Below w.heap.size w w') := fun w => (table40_any w).mono fun e w' h => ⟨h.1, h.2.1.out.at0 r6 hr6a, h.2.2⟩
                    obtain ⟨t, ht⟩ : ∃ t, tb40.getD r6 ByteArray.empty = t := ⟨_, rfl⟩
                    rw [ht] at HTs HTb
                    clear ht hr6
                    go_wp2_with (first
                      | (go_at_call 30; refine (HTb _).mono ?_; rintro e w6 ⟨rfl, hct, HB6⟩; have hB6 := HB6.out; have HL6 : Hid (Lst (w6.alloc (.cells #[.string t] 9)) w4.heap.size a n c ls) := (HL.out.keep hB6).keep (alloc_below w6 _); replace HB6 : Hid (Below w4.heap.size w4 (w6.alloc (.cells #[.string t] 9))) := (HB.out.trans (hB6.mono HB.out.size)).trans ((alloc_below w6 _).mono (Nat.le_trans HB.out.size hB6.size)); clear hB6)
                      | (at_builtin; refine append_t rfl (.tmp 95) (.tmp 102) rfl eltS w4.heap.size rfl HL6.out.own [.string t] rfl rfl (fun h => by cases h) (cells_new rfl) (one1 t) hb1 hm1 HB6.out.size ?_; intro a7 n7 c7 w7 hn7 HO7 HB7; have HL7 : Hid (Lst w7 w4.heap.size a7 n7 c7 (ls ++ [t])) := HL6.out.push HO7.out hn7 HTs.out; have HB7x : Hid (Below w4.heap.size w4 w7) := HB6.out.trans HB7.out))
                    go_roundg (gk - 1)
                    case measure => omega
                    case rel => exact ⟨a7, n7, c7, _, by omega, by rw [hn7], HL7, by omega, HB7x⟩
                  · go_upto_if 108 with fail
                    go_cut [9] from 12 (fun o wx => ∃ (a : Option Addr) (n c : Nat) (ls : List ByteArray), o = .slice a n c ∧ Hid (Lst wx w4.heap.size a n c ls) ∧ Hid (n ≤ 10) ∧ wx = wr)
                    case first =>
                      have HLn : Hid (1 ≤ lo ∧ lo ≤ hi) := ⟨HGd.out.1, HGd.out.2.1⟩
                      by_cases hhi : hi < (n : Int)
                      · obtain ⟨kh, rfl⟩ := Int.eq_ofNat_of_zero_le (show 0 ≤ hi by have := HLn.out; omega)
                        have hk1 : 1 ≤ kh := by have := HLn.out; omega
                        have hkn : kh ≤ n := by omega
                        have hsl := OwnS_slice HL.out.own hk1 hkn
                        have HLc : Hid _ := HL.out.cut hk1 hkn
                        go_wp2
                        go_meet
                        exact ⟨_, _, _, _, rfl, HLc, by show _ ≤ _; omega, rfl⟩
                      · have HN : Hid (n ≤ 10) := hn10
                        go_wp2
                        go_meet
                        exact ⟨_, _, _, _, rfl, HL, HN, rfl⟩
                    case rest =>
                      obtain ⟨a9, n9, c9, ls9, rfl, HL9, HN9, rfl⟩ := hcut
                      obtain ⟨v0, v1, v2, v3, v4⟩ := HVr.out.cells
                      simp only at v0 v1 v2 v3 v4
                      have HM := mod2 n9
                      have h1 : (nm.toList == [109, 115, 101, 116]) = decide (nm = msetS) := eq_lit _ _
                      have h2 : (nm.toList == [104, 115, 101, 116]) = decide (nm = hsetS) := eq_lit _ _
                      obtain ⟨b1, hb1⟩ : ∃ b1, decide (nm = msetS) = b1 := ⟨_, rfl⟩
                      obtain ⟨b2, hb2⟩ : ∃ b2, decide (nm = hsetS) = b2 := ⟨_, rfl⟩
                      obtain ⟨rm, hrm⟩ : ∃ rm, n9 % 2 = rm := ⟨_, rfl⟩
                      rw [hb1] at h1
                      rw [hb2] at h2
                      rw [hrm] at HM
                      have hrm2 : rm = 0 ∨ rm = 1 := by omega
                      clear hb1 hb2 hrm
                      go_upto_region 26 with fail
                      go_cut [132] from 12 (fun u wx => ∃ bb : Bool, u = .bool bb ∧ wx = wc)
                      case first =>
                        rcases hrm2 with rfl | rfl <;> cases b1 <;> cases b2
                        all_goals
                          go_wp2
                          go_meet
                          exact ⟨_, rfl, rfl⟩
                      case rest =>
                        obtain ⟨bb, rfl, rfl⟩ := hcut
                        cases bb with
                        | false =>
                          go_wp2
                          go_ret
                          obtain ⟨-, -, -, hbx, -⟩ := HX.out _ HB.out
                          rw [← HBe.out] at hbx
                          have hll : Hid (Lst wc w.heap.size a9 n9 c9 ls9) := ⟨HL9.out.own.low (by rw [HBe.out]; exact HZ4.out), HL9.out.sz, HL9.out.pos⟩
                          have hnn : n9 ≤ 300 := by have := HN9.out; omega
                          first
                            | exact ⟨hbx, a9, n9, c9, ls9, rfl, hll, hnn⟩
                            | exact ⟨hbx, a9, n9, c9, rfl, ⟨ls9, hll⟩, hnn⟩
                        | true =>
                          have hb1 : (n9 + 1) * 16 ≤ 140737488355328 := by have := HN9.out; omega
                          have hm1 : n9 + 1 ≤ maxLen := by have := HN9.out; unfold maxLen; omega
                          have h49 : Hid ((ByteArray.mk #[49]).size ≤ 100) := by show _ ≤ _; decide
                          have HZc : Hid (w4.heap.size ≤ (wc.alloc (.cells #[.string ⟨#[49]⟩] 9)).heap.size) := Nat.le_trans HB.out.size (alloc_below wc _).size
                          go_wp2_with (at_builtin; refine append_t rfl (.tmp 133) (.tmp 134) rfl eltS w4.heap.size rfl (HL9.out.keep (alloc_below wc (.cells #[.string ⟨#[49]⟩] 9))).own [.string ⟨#[49]⟩] rfl rfl (fun h => by cases h) (cells_new rfl) (one1 _) hb1 hm1 HZc.out ?_; intro a7 n7 c7 w7 hn7 HO7 HB7; replace HB7 : Hid (Below w4.heap.size w4 w7) := (HB.out.trans ((alloc_below wc (.cells #[.string ⟨#[49]⟩] 9)).mono HB.out.size)).trans HB7.out; have HL7 : Hid (Lst w7 w4.heap.size a7 n7 c7 (ls9 ++ [⟨#[49]⟩])) := Lst.push HL9.out HO7.out hn7 h49.out)
                          go_ret
                          obtain ⟨-, -, -, hbx, -⟩ := HX.out _ HB7.out
                          rw [← HBe.out] at hbx
                          have hll : Hid (Lst w7 w.heap.size a7 n7 c7 (ls9 ++ [⟨#[49]⟩])) := ⟨HL7.out.own.low (by rw [HBe.out]; exact HZ4.out), HL7.out.sz, HL7.out.pos⟩
                          have hnn : n7 ≤ 300 := by have := HN9.out; omega
                          first
                            | exact ⟨hbx, a7, n7, c7, _, by rw [hn7]; rfl, hll, hnn⟩
                            | exact ⟨hbx, a7, n7, c7, by rw [hn7]; rfl, ⟨_, hll⟩, hnn⟩
end Go.Proofs.YtlapiaoopmhogaaDoor
