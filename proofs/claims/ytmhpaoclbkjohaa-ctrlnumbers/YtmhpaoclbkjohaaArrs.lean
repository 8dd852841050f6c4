/-
  The law's own bytes and word: a word as an array of bytes, and back.
-/
import Derived.Test.YtmhpaoclbkjohaaInts
namespace Go.Proofs.Ytmhpaoclbkjohaa
open Go.RowKit Go.PlainAid

abbrev zeros : List Nat := [0, 0, 0, 0, 0, 0, 0, 0]
/-- A row of bytes that is filled from the front. -/
def fill (l : List Nat) (k : Nat) : List Nat := l.take k ++ List.replicate (8 - k) 0
theorem fill_len {l : List Nat} (hl : l.length = 8) {k : Nat} (hk : k ≤ 8) : (fill l k).length = 8 := by simp [fill, hl]; omega
theorem fill_zero (l : List Nat) : fill l 0 = zeros := rfl
theorem fill_all {l : List Nat} (hl : l.length = 8) : fill l 8 = l := by
  unfold fill; rw [List.take_of_length_le (by omega)]; simp
theorem fill_set {l : List Nat} (hl : l.length = 8) {k : Nat} (hk : k < 8) : (fill l k).set k (l.getD k 0) = fill l (k + 1) := by
  unfold fill
  rw [List.set_append_right _ _ (by rw [List.length_take]; omega), List.length_take, Nat.min_eq_left (by omega), Nat.sub_self, show 8 - k = (8 - (k + 1)) + 1 by omega, List.replicate_succ, List.set_cons_zero,
    List.take_add_one, List.getD_eq_getElem?_getD, List.getElem?_eq_getElem (by omega), List.append_assoc]
  rfl

set_option maxHeartbeats 1000000 in
theorem bytes_any {l : List Nat} (hl : Ok l) (w : World) : Calls Try.prog 13 #[.int .u64 (val l : Nat)] w fun e w' => e = .returned (.agg (arr l)) ∧ Below w.heap.size w w' := by
  have HV : Hid (∀ i, val l / 256 ^ i % 256 = l.getD i 0) := val_get hl.byt
  have HL : Hid (Ok l) := hl
  have hlt := hl.lt
  obtain ⟨n, hn⟩ : ∃ n, val l = n := ⟨_, rfl⟩
  rw [hn] at HV hlt ⊢
  obtain ⟨w2, hw2⟩ : ∃ w2, (w.alloc (.cells (arr zeros) 28)).alloc (.cells (arr zeros) 28) = w2 := ⟨_, rfl⟩
  obtain ⟨ga, hga⟩ : ∃ ga, w.heap.size = ga := ⟨_, rfl⟩
  have HA1 : Hid (Arr w2 ga zeros) := by show Arr _ _ _; rw [← hw2, ← hga]; exact (Arr.made w zeros).keep (alloc_below _ _)
  have HA2 : Hid (Arr w2 (ga + 1) zeros) := by show Arr _ _ _; rw [← hw2, ← hga]; have := Arr.made (w.alloc (.cells (arr zeros) 28)) zeros; simpa using this
  have HB : Hid (Below ga w w2) := by show Below _ _ _; rw [← hw2, ← hga]; exact (alloc_below _ _).trans ((alloc_below _ _).mono (alloc_below _ _).size)
  clear hl hn
  replace hw2 : (w.alloc (.cells #[.int .u8 0, .int .u8 0, .int .u8 0, .int .u8 0, .int .u8 0, .int .u8 0, .int .u8 0, .int .u8 0] 28)).alloc (.cells #[.int .u8 0, .int .u8 0, .int .u8 0, .int .u8 0, .int .u8 0, .int .u8 0, .int .u8 0, .int .u8 0] 28) = w2 := hw2
  have hgz : ga + 1 ≠ ga := by omega
  have HGA : Hid (w.heap.size = ga) := hga
  go_enter Try.func13, Try.ntmps13
  go_wp2
  go_loopg [4] 8 (fun q iv wr => ∃ (k : Nat), k + q = 8 ∧ iv = .int .i64 k ∧ Hid (Arr wr ga zeros) ∧ Hid (Arr wr (ga + 1) (fill l k)) ∧ Hid (Below ga w wr))
  case atStart => exact ⟨0, by omega, rfl, HA1, HA2, HB⟩
  case round =>
    clear hw2 HA1 HA2 HB hga
    obtain ⟨k, hk, rfl, HA1, HA2, HB⟩ := hrel
    by_cases h8 : k < 8
    · have hfz := HA2.out.frozen k
      have hc := HA2.out.cell k (by rw [fill_len HL.out.len (by omega)]; exact h8)
      have HN2 : Hid (Arr (wr.setCell ⟨ga + 1, k, none⟩ (.int .u8 (l.getD k 0 : Nat))) (ga + 1) (fill l (k + 1))) := by
        show Arr _ _ _
        rw [← fill_set HL.out.len h8]; exact HA2.out.set k _
      have HN1 : Hid (Arr (wr.setCell ⟨ga + 1, k, none⟩ (.int .u8 (l.getD k 0 : Nat))) ga zeros) := HA1.out.other k _ (by omega)
      have HNB : Hid (Below ga w (wr.setCell ⟨ga + 1, k, none⟩ (.int .u8 (l.getD k 0 : Nat)))) := HB.out.setCell (Nat.le_succ _) _
      have hv := HV.out k
      have hzl : l.getD k 0 < 256 := HL.out.get k
      generalize l.getD k 0 = z at HN1 HN2 HNB hv hzl
      generalize (fill l k).getD k 0 = z0 at hc
      rcases slot8 h8 with rfl | rfl | rfl | rfl | rfl | rfl | rfl | rfl
      · have hz : (n : Int) % 256 = (z : Int) := by simp only [Nat.reducePow] at hv; omega
        clear hv
        go_wp2
        go_roundg (gk - 1)
        case measure => omega
        case rel => exact ⟨1, by omega, rfl, HN1, HN2, HNB⟩
      · have hz : (n : Int) / 256 % 256 = (z : Int) := by simp only [Nat.reducePow] at hv; omega
        clear hv
        go_wp2
        go_roundg (gk - 1)
        case measure => omega
        case rel => exact ⟨2, by omega, rfl, HN1, HN2, HNB⟩
      · have hz : (n : Int) / 65536 % 256 = (z : Int) := by simp only [Nat.reducePow] at hv; omega
        clear hv
        go_wp2
        go_roundg (gk - 1)
        case measure => omega
        case rel => exact ⟨3, by omega, rfl, HN1, HN2, HNB⟩
      · have hz : (n : Int) / 16777216 % 256 = (z : Int) := by simp only [Nat.reducePow] at hv; omega
        clear hv
        go_wp2
        go_roundg (gk - 1)
        case measure => omega
        case rel => exact ⟨4, by omega, rfl, HN1, HN2, HNB⟩
      · have hz : (n : Int) / 4294967296 % 256 = (z : Int) := by simp only [Nat.reducePow] at hv; omega
        clear hv
        go_wp2
        go_roundg (gk - 1)
        case measure => omega
        case rel => exact ⟨5, by omega, rfl, HN1, HN2, HNB⟩
      · have hz : (n : Int) / 1099511627776 % 256 = (z : Int) := by simp only [Nat.reducePow] at hv; omega
        clear hv
        go_wp2
        go_roundg (gk - 1)
        case measure => omega
        case rel => exact ⟨6, by omega, rfl, HN1, HN2, HNB⟩
      · have hz : (n : Int) / 281474976710656 % 256 = (z : Int) := by simp only [Nat.reducePow] at hv; omega
        clear hv
        go_wp2
        go_roundg (gk - 1)
        case measure => omega
        case rel => exact ⟨7, by omega, rfl, HN1, HN2, HNB⟩
      · have hz : (n : Int) / 72057594037927936 = (z : Int) := by simp only [Nat.reducePow] at hv; omega
        clear hv
        go_wp2
        go_roundg (gk - 1)
        case measure => omega
        case rel => exact ⟨8, by omega, rfl, HN1, HN2, HNB⟩
    · obtain rfl : k = 8 := by omega
      rw [fill_all HL.out.len] at HA2
      go_wp2_with (first | refine load_arr rfl (.tmp 3) rfl rfl HA2.out HL.out.len ?_ | (refine store_arr rfl (.tmp 2) (.tmp 17) rfl rfl rfl HA1.out rfl HL.out.len ?_; intro w3 HA3 HG3))
      have HB3 : Hid (Below ga w w3) := HB.out.grown HG3.out (by have := HA1.out.lt; omega) (fun q hq => by cases hq; exact Nat.le_refl _)
      exact bodyPost_ret (v := .agg (arr l)) (results_cell_row rfl _ _ ga 28 (arr l) (0, 0) _ rfl HA3.out Try.underlying28 rfl (by rw [arr_size HL.out.len]; exact Try.info28)) rfl ⟨rfl, by rw [HGA.out]; exact HB3.out⟩

/-- What is left of a word's bytes behind the first k. -/
def hi (l : List Nat) (k : Nat) : Nat := val (l.drop k)
theorem hi_step {l : List Nat} (k : Nat) (hk : k < l.length) : hi l k = l.getD k 0 + 256 * hi l (k + 1) := by
  unfold hi
  rw [List.drop_eq_getElem_cons hk, val, List.getD_eq_getElem?_getD, List.getElem?_eq_getElem hk]; rfl
theorem hi_lt {l : List Nat} (h : Ok l) (k : Nat) : hi l k < 256 ^ (8 - k) := by
  have := val_lt (l := l.drop k) (fun x hx => h.byt x (List.mem_of_mem_drop hx))
  rw [List.length_drop, h.len] at this; exact this
theorem hi_or {l : List Nat} (h : Ok l) {k : Nat} (hk : k < 8) : (hi l (k + 1) * 256) ||| l.getD k 0 = hi l k := by
  rw [hi_step k (by rw [h.len]; exact hk), Nat.add_comm (l.getD k 0), Nat.mul_comm 256]
  have hb : l.getD k 0 < 2 ^ 8 := h.get k
  have := Nat.shiftLeft_add_eq_or_of_lt hb (hi l (k + 1))
  rw [Nat.shiftLeft_eq, show (2 : Nat) ^ 8 = 256 from rfl] at this
  exact this.symm

set_option maxHeartbeats 1000000 in
theorem word_any {l : List Nat} (hl : Ok l) (w : World) : Calls Try.prog 11 #[.agg (arr l)] w fun e w' => e = .returned (.int .u64 (val l : Nat)) ∧ Below w.heap.size w w' := by
  have HL : Hid (Ok l) := hl
  obtain ⟨w2, hw2⟩ : ∃ w2, w.alloc (.cells (arr l) 28) = w2 := ⟨_, rfl⟩
  obtain ⟨ga, hga⟩ : ∃ ga, w.heap.size = ga := ⟨_, rfl⟩
  have HA : Hid (Arr w2 ga l) := by show Arr _ _ _; rw [← hw2, ← hga]; exact Arr.made w l
  have HB : Hid (Below ga w w2) := by show Below _ _ _; rw [← hw2, ← hga]; exact alloc_below _ _
  have HGA : Hid (w.heap.size = ga) := hga
  have HV : Hid (hi l 0 = val l) := rfl
  have HZ : Hid (hi l 8 = 0) := by show hi l 8 = 0; unfold hi; rw [List.drop_of_length_le (by rw [hl.len]; exact Nat.le_refl _)]; rfl
  clear hl
  go_enter Try.func11, Try.ntmps11
  go_wp2
  go_loopg [3, 4] 8 (fun q nv iv wr => q ≤ 8 ∧ iv = .int .i64 ((q : Int) - 1) ∧ nv = .int .u64 (hi l q : Nat) ∧ Hid (Arr wr ga l) ∧ Hid (Below ga w wr))
  case atStart => exact ⟨by omega, rfl, by rw [HZ.out]; rfl, HA, HB⟩
  case round =>
    clear hw2 HA HB hga
    obtain ⟨hk, rfl, rfl, HA, HB⟩ := hrel
    cases gk with
    | zero =>
      have hi0 : ((0 : Nat) : Int) - 1 = -1 := rfl
      rw [hi0, HV.out]
      clear hi0
      go_wp2
      go_ret
      exact ⟨rfl, by rw [HGA.out]; exact HB.out⟩
    | succ k =>
      have hik : ((k + 1 : Nat) : Int) - 1 = (k : Int) := by omega
      rw [hik]
      clear hik
      have hc := HA.out.cell k (by rw [HL.out.len]; omega)
      have hb := HL.out.get k
      have ho := hi_or HL.out (k := k) (by omega)
      have hn : hi l (k + 1) < 72057594037927936 := by
        have h1 := hi_lt HL.out (k + 1)
        have h2 : 256 ^ (8 - (k + 1)) ≤ 256 ^ 7 := Nat.pow_le_pow_right (by decide) (by omega)
        omega
      obtain ⟨z, hz⟩ : ∃ z, hi l k = z := ⟨_, rfl⟩
      have HZ2 : Hid (hi l k = z) := hz
      rw [hz] at ho
      clear hz
      generalize hi l (k + 1) = n at ho hn ⊢
      generalize l.getD k 0 = b at hc hb ho
      have hor : bits .or .u64 ((n : Int) * 256) (b : Int) = (z : Int) := by
        rw [← ho, show ((n : Int) * 256) = ((n * 256 : Nat) : Int) by omega]
        exact u64_or_nat (n * 256) b (by omega) (by omega)
      clear ho
      have hkk : (k : Int) < 8 := by omega
      go_wp2
      go_roundg k
      case measure => omega
      case rel => exact ⟨by omega, rfl, by rw [HZ2.out], HA, HB⟩
end Go.Proofs.Ytmhpaoclbkjohaa
