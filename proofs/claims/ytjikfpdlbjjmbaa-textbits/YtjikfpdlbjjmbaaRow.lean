/-
  The document's own: long, SetRange, SetBit.
-/
import Derived.Test.YtjikfpdlbjjmbaaSetB
import Derived.Laws.IdiomCopy
import Derived.Lib.AppendZeros
namespace Go.Proofs.Ytjikfpdlbjjmbaa
open Go.RowKit Go.PlainAid

/-- A row of bytes in block g, cell by cell; a mark behind its end is let in. -/
structure Row (w : World) (B g n c : Nat) (l : List UInt8) : Prop where
  low : B ≤ g
  len : l.length = n
  fit : n ≤ c
  max : c ≤ maxLen
  cell : ∀ j, j < n → w.cell? ⟨g, j, none⟩ = some (.int .u8 ((l.getD j 0).toNat : Nat))
  room : ∀ j, j < c → (w.cell? ⟨g, j, none⟩).isSome = true
  free : ∀ j, j < c → w.frozen? ⟨g, j, none⟩ = false

theorem Row.of_heap {w wn : World} {B g n c : Nat} {l : List UInt8} (h : Row w B g n c l) (hh : wn.heap = w.heap) : Row wn B g n c l :=
  ⟨h.low, h.len, h.fit, h.max, fun j hj => by rw [← h.cell j hj]; simp [World.cell?, hh], fun j hj => by rw [← h.room j hj]; simp [World.cell?, hh], fun j hj => by rw [← h.free j hj]; simp [World.frozen?, hh]⟩
theorem Row.drewN {w : World} {B g n c : Nat} {l : List UInt8} (h : Row w B g n c l) (k : Nat) : Row (w.drewN k) B g n c l := h.of_heap (by induction k with | zero => rfl | succ k ih => exact ih)
theorem Row.set {w : World} {B g n c : Nat} {l : List UInt8} (h : Row w B g n c l) (i : Nat) (hi : i < n) (b : UInt8) (x : Int) (hx : x = (b.toNat : Nat)) : Row (w.setCell ⟨g, i, none⟩ (.int .u8 x)) B g n c (l.set i b) := by
  refine ⟨h.low, by rw [List.length_set]; exact h.len, h.fit, h.max, fun j hj => ?_, fun j hj => ?_, fun j hj => by rw [World.frozen?_setCell]; exact h.free j hj⟩
  · by_cases e : j = i
    · subst e
      rw [World.cell?_setCell_same _ _ _ (h.cell j hj), hx, List.getD_eq_getElem?_getD, List.getElem?_set_self (by rw [h.len]; exact hj)]; rfl
    · rw [World.cell?_setCell_other _ _ _ _ (by intro q; cases q; exact e rfl), h.cell j hj, List.getD_eq_getElem?_getD, List.getD_eq_getElem?_getD, List.getElem?_set_ne (fun q => e q.symm)]
  · by_cases e : j = i
    · subst e
      rw [World.cell?_setCell_same _ _ _ (h.cell j hi)]; rfl
    · rw [World.cell?_setCell_other _ _ _ _ (by intro q; cases q; exact e rfl)]; exact h.room j hj
theorem Row.rd {w : World} {B g n c : Nat} {l : List UInt8} (h : Row w B g n c l) : Rd w (some ⟨g, 0, none⟩) n c l :=
  ⟨h.len, h.fit, h.max, (fun e => nomatch e), fun j hj => ⟨g, 0, rfl, by rw [Nat.zero_add]; exact h.cell j hj⟩⟩
theorem Row.lt {w : World} {B g n c : Nat} {l : List UInt8} (h : Row w B g n c l) (h0 : 0 < n) : g < w.heap.size := World.block_lt_of_cell? _ _ (h.cell 0 h0)
theorem Row.keep {w wn : World} {B g n c : Nat} {l : List UInt8} (h : Row w B g n c l) (hg : g < w.heap.size) (hb : Below w.heap.size w wn) : Row wn B g n c l :=
  ⟨h.low, h.len, h.fit, h.max, fun j hj => by rw [hb.cell (p := ⟨g, j, none⟩) hg]; exact h.cell j hj, fun j hj => by rw [hb.cell (p := ⟨g, j, none⟩) hg]; exact h.room j hj,
    fun j hj => by rw [World.frozen?_of_block (hb.block g hg)]; exact h.free j hj⟩

/-- []byte(s). -/
theorem conv_row (w : World) (s : ByteArray) (hs : s.size ≤ 140737488355328) :
    ∃ c wn, (convert 9 27 (.string s)).run Try.prog w = .ok (.slice (some ⟨w.heap.size, 0, none⟩) s.size c) wn ∧ Below w.heap.size w wn ∧ w.heap.size < wn.heap.size ∧ Row wn w.heap.size w.heap.size s.size c (lst s) := by
  refine ⟨_, _, Lib.run_convert_string_bytes (P := Try.prog) w 9 27 5 s Try.underlying9 Try.underlying27 Try.underlying5, ?_, by rw [Lib.bytesWorld_size]; omega, ?_⟩
  · exact ⟨rfl, rfl, rfl, by rw [Lib.bytesWorld_size]; omega, fun k hk => Lib.bytesWorld_at_old w 5 s k hk⟩
  · have hsz : (Lib.bytesCells w 5 s).size = s.size + (grownCap w s.size 0 5 - s.size) := by simp [Lib.bytesCells]
    have hge := grownCap_ge w s.size 0 5
    refine ⟨Nat.le_refl _, len_lst s, hge, grownCap_le_maxLen w s.size 0 5 (by unfold maxLen; omega), fun j hj => Lib.bytesWorld_cell w 5 s j hj, fun j hj => ?_, fun j hj => ?_⟩
    · have hat := Lib.bytesWorld_at_new w 5 s
      simp only [World.cell?, hat]
      rw [Array.getElem?_eq_getElem (by omega)]; rfl
    · have hat := Lib.bytesWorld_at_new w 5 s
      simp only [World.frozen?, hat]
      simp; omega

/-- b = append(b, 0), the new byte in its own block. -/
theorem push_zero (w : World) (B g n c h : Nat) (l : List UInt8) (hR : Row w B g n c l) (hg : g < w.heap.size) (hB : B ≤ w.heap.size) (hz : w.cell? ⟨h, 0, none⟩ = some (.int .u8 0)) (hn : n ≤ 140737488355000) :
    ∃ g' c' wn, (∀ ty, (Builtin.append_ #[27, 27] ty #[.slice (some ⟨g, 0, none⟩) n c, .slice (some ⟨h, 0, none⟩) 1 1]).run Try.prog w = .ok (.slice (some ⟨g', 0, none⟩) (n + 1) c') wn) ∧ Row wn B g' (n + 1) c' (l ++ [0]) ∧ g' < wn.heap.size ∧ Below B w wn := by
  obtain ⟨i0, hi, hz0, hz1, hz2⟩ := info_parts Try.info5
  have hnews : ∀ j v, ([Value.int .u8 0] : List Value)[j]? = some v → w.cell? ((⟨h, 0, none⟩ : Addr).add j) = some v := by
    intro j v hv
    cases j with
    | zero => simp at hv; subst hv; rw [add_flat]; exact hz
    | succ j => simp at hv
  have hlast : ∀ j, j < n + 1 → (if j < n then Value.int .u8 ((l.getD j 0).toNat : Nat) else .int .u8 0) = .int .u8 (((l ++ [0]).getD j 0).toNat : Nat) := by
    intro j hj
    rw [List.getD_eq_getElem?_getD (l := l ++ [0])]
    by_cases h1 : j < n
    · rw [if_pos h1, List.getElem?_append_left (by rw [hR.len]; exact h1), List.getD_eq_getElem?_getD]
    · rw [if_neg h1, List.getElem?_append_right (by rw [hR.len]; omega), hR.len, show j - n = 0 by omega]; rfl
  by_cases hroom : n + 1 ≤ c
  · obtain ⟨u, hu⟩ := Option.isSome_iff_exists.1 (hR.room n (by omega))
    have hfz := hR.free n (by omega)
    have hf := run_firstCells_some (P := Try.prog) w i0.size 1 ⟨h, 0, none⟩ 1 1 [.int .u8 0] (by simp [hz1]) hnews
    rw [hz1] at hf
    have hst := run_storeCells_cells (P := Try.prog) g n [.int .u8 0] 0 w (fun j hj => by
      have : j = 0 := by simpa using hj
      subst this; simp [hu]) (fun j hj => by
      have : j = 0 := by simpa using hj
      subst this; simpa using hfz) (by simp [Value.oneCell'])
    rw [Nat.add_zero] at hst
    refine ⟨g, c, w.setCells g n [.int .u8 0], fun ty => ?_, ?_, ?_, ?_⟩
    · simp [Builtin.append_, run_underlying Try.underlying27, sizeOf, typeInfo, hi, Builtin.lenOf, hroom, hf, hz1, add_flat, hst]
    · show Row (w.setCell ⟨g, n, none⟩ (.int .u8 0)) B g (n + 1) c (l ++ [0])
      refine ⟨hR.low, by simp [hR.len], hroom, hR.max, fun j hj => ?_, fun j hj => ?_, fun j hj => by rw [World.frozen?_setCell]; exact hR.free j hj⟩
      · rw [← hlast j hj]
        by_cases h1 : j < n
        · rw [if_pos h1, World.cell?_setCell_other _ _ _ _ (by intro q; cases q; omega), hR.cell j h1]
        · obtain rfl : j = n := by omega
          rw [if_neg h1, World.cell?_setCell_same _ _ _ hu]
      · by_cases h1 : j = n
        · subst h1
          rw [World.cell?_setCell_same _ _ _ hu]; rfl
        · rw [World.cell?_setCell_other _ _ _ _ (by intro q; cases q; exact h1 rfl)]; exact hR.room j hj
    · show g < (w.setCell ⟨g, n, none⟩ (.int .u8 0)).heap.size
      simpa using hg
    · show Below B w (w.setCell ⟨g, n, none⟩ (.int .u8 0))
      exact (Below.refl B w).setCell hR.low _
  · have holds : ∀ j v, (cells l)[j]? = some v → w.cell? ((⟨g, 0, none⟩ : Addr).add j) = some v := by
      intro j v hv
      have hj : j < l.length := by
        rcases Nat.lt_or_ge j l.length with h | h
        · exact h
        · rw [List.getElem?_eq_none (by rw [len_cells]; exact h)] at hv; cases hv
      rw [add_flat, Nat.zero_add, hR.cell j (by rw [← hR.len]; exact hj), ← hv]
      simp [cells, List.getD_eq_getElem?_getD, hj]
    have hr := fun ty => run_append_grow (P := Try.prog) w 27 ty 5 i0 (.int .u8 0) Try.underlying27 hi hz0 ⟨g, 0, none⟩ n c (cells l) (by rw [len_cells, hR.len, hz1]; omega) holds ⟨h, 0, none⟩ 1 1 [.int .u8 0] (by simp [hz1]) hnews (by omega) (by omega) (growslice_fits (by omega) (by rw [hz2]; omega))
    refine ⟨_, _, _, hr, ?_, by simp, ?_⟩
    · have hge := grownCap_ge w (n + 1) c 5
      obtain ⟨q, hq⟩ : ∃ q, grownCap w (n + 1) c 5 = q := ⟨_, rfl⟩
      have hqm : q ≤ maxLen := by rw [← hq]; exact grownCap_le_maxLen w (n + 1) c 5 (by unfold maxLen; omega)
      rw [hq] at hge ⊢
      have hat := heap_alloc_new w.drew (.cells ((cells l).toArray ++ [Value.int .u8 0].toArray ++ Builtin.zeroCells (Value.int .u8 0).cells (q - (n + 1))) 5)
      rw [show w.drew.heap.size = w.heap.size from rfl] at hat
      have hsz : ((cells l).toArray ++ [Value.int .u8 0].toArray ++ Builtin.zeroCells (Value.int .u8 0).cells (q - (n + 1))).size = q := by
        simp [Builtin.zeroCells, cells, hR.len, Value.cells]; omega
      refine ⟨hB, by simp [hR.len], hge, hqm, fun j hj => ?_, fun j hj => ?_, fun j hj => ?_⟩
      · rw [← hlast j hj]
        simp only [World.cell?]
        rw [hat]
        have : ((cells l).toArray ++ [Value.int .u8 0].toArray)[j]? = some (if j < n then Value.int .u8 ((l.getD j 0).toNat : Nat) else .int .u8 0) := by
          by_cases h1 : j < n
          · rw [if_pos h1, Array.getElem?_append_left (by simp [cells, hR.len]; exact h1)]
            simp [cells, List.getD_eq_getElem?_getD, hR.len, h1]
          · rw [if_neg h1, Array.getElem?_append_right (by simp [cells, hR.len]; omega)]
            simp [cells, hR.len, show j - n = 0 by omega]
        show (_ ++ _)[j]? = _
        rw [Array.getElem?_append_left (by simp [cells, hR.len]; omega)]
        exact this
      · simp only [World.cell?]
        rw [hat]
        show (_ ++ _)[j]?.isSome = _
        rw [Array.getElem?_eq_getElem (by rw [hsz]; exact hj)]; rfl
      · simp only [World.frozen?]
        rw [hat]
        simp
    · exact (Below.refl B w).drew.alloc (by simpa using hB) _

theorem ext_succ (l : List UInt8) (k : Nat) (h : l.length ≤ k) : ext l k ++ [0] = ext l (k + 1) := by
  unfold ext
  rw [show k + 1 - l.length = (k - l.length) + 1 by omega, List.replicate_succ', List.append_assoc]

set_option maxHeartbeats 1000000 in
theorem long_any (s : ByteArray) (n m : Nat) (w : World) (hn : n ≤ 1000000) (hs : s.size ≤ 140737488300000) (hm : max s.size n = m) :
    Calls Try.prog 39 #[.string s, .int .i64 n] w fun e w' => Below w.heap.size w w' ∧ ∃ g c, e = .returned (.slice (some ⟨g, 0, none⟩) m c) ∧ g < w'.heap.size ∧ Row w' w.heap.size g m c (ext (lst s) n) := by
  obtain ⟨c0, w0, hcv, hb0, hlt0, hR0⟩ := conv_row w s (by omega)
  have HB0 : Hid (Below w.heap.size w w0) := hb0
  have HL0 : Hid (w.heap.size < w0.heap.size) := hlt0
  have HR0 : Hid (Row w0 w.heap.size w.heap.size s.size c0 (ext (lst s) s.size)) := by
    show Row _ _ _ _ _ _
    rw [ext_self _ _ (by rw [len_lst]; exact Nat.le_refl _)]; exact hR0
  clear hb0 hlt0 hR0
  go_enter Try.func39, Try.ntmps39
  go_wp2
  go_loopg [5] (m - s.size) (fun q bv wr => ∃ k g c, k + q = m ∧ s.size ≤ k ∧ bv = .slice (some ⟨g, 0, none⟩) k c ∧ Hid (Row wr w.heap.size g k c (ext (lst s) k)) ∧ Hid (g < wr.heap.size) ∧ Hid (Below w.heap.size w wr))
  case atStart => exact ⟨s.size, w.heap.size, c0, by omega, Nat.le_refl _, rfl, HR0, HL0, HB0⟩
  case round =>
    obtain ⟨k, g, c, hk, hsk, rfl, HR, HG, HB⟩ := hrel
    have HK : Hid (k + gk = m) := hk
    by_cases hlt : (k : Int) < n
    · have HM : Hid (k ≤ 1000000) := by show _ ≤ _; omega
      have HSK : Hid (s.size ≤ k) := hsk
      have HNM : Hid (k < m) := by show _ < _; omega
      have hX : ∃ g' c' wn, (∀ ty, (Builtin.append_ #[27, 27] ty #[.slice (some ⟨g, 0, none⟩) k c, .slice (some ⟨wr.heap.size, 0, none⟩) 1 1]).run Try.prog (wr.alloc (.cells #[.int .u8 0] 5)) = .ok (.slice (some ⟨g', 0, none⟩) (k + 1) c') wn) ∧ Row wn w.heap.size g' (k + 1) c' (ext (lst s) (k + 1)) ∧ g' < wn.heap.size ∧ Below w.heap.size w wn := by
        have hab := alloc_below wr (.cells #[.int .u8 0] 5)
        have hsz := hab.size
        have hBn := HB.out.size
        obtain ⟨g', c', wn, h1, h2, h3, h4⟩ := push_zero (wr.alloc (.cells #[.int .u8 0] 5)) w.heap.size g k c wr.heap.size (ext (lst s) k) (HR.out.keep HG.out hab) (Nat.lt_of_lt_of_le HG.out hsz) (Nat.le_trans hBn hsz) (by simp) (by omega)
        rw [ext_succ _ _ (by rw [len_lst]; exact hsk)] at h2
        exact ⟨g', c', wn, h1, h2, h3, (HB.out.trans (hab.mono hBn)).trans h4⟩
      obtain ⟨g', c', wn, hap, hRn, hGn, hBn⟩ := hX
      have HRn : Hid (Row wn w.heap.size g' (k + 1) c' (ext (lst s) (k + 1))) := hRn
      have HGn : Hid (g' < wn.heap.size) := hGn
      have HBn : Hid (Below w.heap.size w wn) := hBn
      clear hRn hGn hBn hk hsk
      go_wp2_with (at_builtin; refine Lib.wpList_append_run _ rfl (.tmp 12) (.tmp 13) 27 27 rfl _ _ rfl rfl _ _ (hap _) ?_)
      go_roundg (gk - 1)
      case measure => have := HK.out; have := HNM.out; omega
      case rel => exact ⟨k + 1, g', c', by have := HK.out; have := HNM.out; omega, by have := HSK.out; omega, rfl, HRn, HGn, HBn⟩
    · have hkm : k = m := by omega
      subst hkm
      have HRn : Hid (Row wr w.heap.size g k c (ext (lst s) n)) := by
        have e : ext (lst s) k = ext (lst s) n := by
          unfold ext; congr 2; rw [len_lst]; omega
        rw [← e]; exact HR
      go_wp2
      go_ret
      exact ⟨HB.out, g, c, rfl, HG.out, HRn.out⟩
end Go.Proofs.Ytjikfpdlbjjmbaa
