/-
  A table that is made (emptyGroups, New), and a key that is laid into it (lay).
-/
import Derived.Test.YtejnmikbbnckeaaFind
namespace Go.Proofs.Ytejnmikbbnckeaa
open Go.RowKit Go.PlainAid

/-- G groups, the first k of them with their words. -/
def zk (G k : Nat) : List Cl := (List.range (8 * G)).map fun q => ((if q < 8 * k then 128 else 0), ⟨#[]⟩, 0)
theorem zk_len (G k : Nat) : (zk G k).length = 8 * G := by simp [zk]
theorem cel_zk {G q : Nat} (k : Nat) (h : q < 8 * G) : cel (zk G k) q = ((if q < 8 * k then 128 else 0), ⟨#[]⟩, 0) := by
  rw [cel_at _ (by rw [zk_len]; exact h)]
  simp [zk]
theorem zk_all (G : Nat) : zk G G = news0 G := by
  apply List.ext_getElem (by simp [zk, news0])
  intro i h1 h2
  rw [zk_len] at h1
  simp [zk, news0, h1]
theorem wrd_zk_no {G k g : Nat} (hg : g < G) (h : k ≤ g) : wrd (zk G k) g = [0, 0, 0, 0, 0, 0, 0, 0] := by
  refine wrd_ext (zk_len G k) hg _ rfl (fun i hi => ?_)
  rw [cel_zk k (by omega)]
  simp only [if_neg (show ¬ 8 * g + i < 8 * k by omega)]
  rcases slot8 hi with rfl | rfl | rfl | rfl | rfl | rfl | rfl | rfl <;> rfl
theorem wrd_zk_yes {G k g : Nat} (hg : g < G) (h : g < k) : wrd (zk G k) g = new8 := by
  refine wrd_ext (zk_len G k) hg _ rfl (fun i hi => ?_)
  rw [cel_zk k (by omega)]
  simp only [if_pos (show 8 * g + i < 8 * k by omega)]
  rcases slot8 hi with rfl | rfl | rfl | rfl | rfl | rfl | rfl | rfl <;> rfl
theorem Row.whole {w : World} {b G g : Nat} {z z' : List Cl} (h : Row w b G z) (l : List Nat) (h1 : wrd z' g = l) (h2 : ∀ g', g' < G → g' ≠ g → wrd z' g' = wrd z g') (h3 : ∀ q, q < 8 * G → (cel z' q).2 = (cel z q).2) :
    Row (w.setCell ⟨b, g * 17, none⟩ (.int .u64 (val l : Nat))) b G z' := by
  obtain ⟨cs, k1, k2⟩ := h.ex
  refine ⟨_, heap_set k1 _, k2.put _ _ ?_ ?_ ?_⟩
  · intro g' hg'
    split
    · have : g' = g := by omega
      subst this
      rw [h1]
    · exact h2 g' hg' (by rintro rfl; contradiction)
  · intro g' i' hg' hi'
    rw [if_neg (by omega), h3 _ (by omega)]
  · intro g' i' hg' hi'
    rw [if_neg (by omega), h3 _ (by omega)]

abbrev zgrp : Value := .agg #[.int .u64 0, .string ⟨#[]⟩, .int .i64 0, .string ⟨#[]⟩, .int .i64 0, .string ⟨#[]⟩, .int .i64 0, .string ⟨#[]⟩, .int .i64 0, .string ⟨#[]⟩, .int .i64 0, .string ⟨#[]⟩, .int .i64 0, .string ⟨#[]⟩, .int .i64 0, .string ⟨#[]⟩, .int .i64 0]
theorem Try.infoG : (Try.prog.info? 96).map (fun i => (i.zero, i.size, i.bytes)) = some (some zgrp, 17, 200) := by kernel_rfl
theorem made_get (Z : Array Value) (hz : Z.size = 17) (n g r : Nat) (hg : g < n) (hr : r < 17) : (madeCells Z (n * 17))[g * 17 + r]? = some (Z[r]!) := by
  unfold madeCells
  rw [Array.getElem?_map, Array.getElem?_range, if_pos (by omega), Option.map_some, hz, show (g * 17 + r) % 17 = r by omega]
theorem make_groups (w : World) (n : Nat) (hn : n ≤ 16) :
    (Instr.makeSlice 85 (.int .i64 (n : Int)) (.int .i64 (n : Int))).run Try.prog w = .ok (.slice (some ⟨w.heap.size, 0, none⟩) n n) (w.alloc (.cells (madeCells zgrp.cells (n * 17)) 96)) := by
  obtain ⟨i, h1, h2, h3, h4⟩ := info_parts Try.infoG
  have := run_make (P := Try.prog) w 85 96 i zgrp Try.underlying85 h1 h2 .i64 .i64 n n (by omega) (Int.le_refl _) (by rw [h4]; omega) (by omega)
  rw [h3, Int.toNat_natCast] at this
  exact this
theorem row_made (w : World) (n : Nat) : Row (w.alloc (.cells (madeCells zgrp.cells (n * 17)) 96)) w.heap.size n (zk n 0) := by
  have hz : zgrp.cells.size = 17 := rfl
  refine ⟨_, heap_alloc_new w _, by rw [size_madeCells]; omega, ?_, ?_, ?_⟩
  · intro g hg
    have := made_get zgrp.cells hz n g 0 hg (by decide)
    rw [Nat.add_zero] at this
    rw [this, wrd_zk_no hg (Nat.zero_le _)]
    rfl
  · intro g i hg hi
    have := made_get zgrp.cells hz n g (1 + i * 2) hg (by omega)
    rw [← Nat.add_assoc] at this
    rw [this, cel_zk 0 (by omega)]
    rcases slot8 hi with rfl | rfl | rfl | rfl | rfl | rfl | rfl | rfl <;> rfl
  · intro g i hg hi
    have := made_get zgrp.cells hz n g (1 + i * 2 + 1) hg (by omega)
    rw [← Nat.add_assoc, ← Nat.add_assoc] at this
    rw [this, cel_zk 0 (by omega)]
    rcases slot8 hi with rfl | rfl | rfl | rfl | rfl | rfl | rfl | rfl <;> rfl

set_option maxRecDepth 100000 in
set_option maxHeartbeats 4000000 in
theorem emptyGroups_any (n : Nat) (w : World) (hn : n ≤ 16) :
    Calls Try.prog 64 #[.int .i64 n] w fun e w' => e = .returned (.slice (some ⟨w.heap.size, 0, none⟩) n n) ∧ Below w.heap.size w w' ∧ Row w' w.heap.size n (news0 n) := by
  have hmk := make_groups w n hn
  obtain ⟨w1, hw1⟩ : ∃ w1, w.alloc (.cells (madeCells zgrp.cells (n * 17)) 96) = w1 := ⟨_, rfl⟩
  have HR : Hid (Row w1 w.heap.size n (zk n 0)) := by show Row _ _ _ _; rw [← hw1]; exact row_made w n
  have HB : Hid (Below w.heap.size w w1) := by show Below _ _ _; rw [← hw1]; exact alloc_below w _
  rw [hw1] at hmk
  clear hw1
  have HN := New_any
  obtain ⟨n8, en8⟩ : ∃ n8, val new8 = n8 := ⟨_, rfl⟩
  have HE8 : Hid (val new8 = n8) := en8
  rw [en8] at HN
  clear en8
  obtain ⟨b, hb⟩ : ∃ b, w.heap.size = b := ⟨_, rfl⟩
  have HBb : Hid (w.heap.size = b) := hb
  rw [hb] at hmk HR
  have HR0 : Hid (w1.heap.size > b) := HR.out.lt
  clear hb
  go_enter Try.func64, Try.ntmps64
  go_wp2
  go_loopg [4, 9] n (fun q iv jv wr => ∃ g : Nat, g + q = n ∧ jv = .int .i64 g ∧ Hid (Row wr b n (zk n g)) ∧ Hid (Below w.heap.size w wr))
  case atStart => exact ⟨0, by omega, rfl, HR, HB⟩
  case round =>
    clear HB HR
    obtain ⟨g, hg, rfl, HR, HB⟩ := hrel
    by_cases h8 : (g : Int) < n
    · have hgn : g < n := by omega
      go_wp2_with fail
      refine (HN _).mono ?_
      rintro e w2 ⟨rfl, hb2⟩
      have HR2 : Hid (Row w2 b n (zk n g)) := HR.out.keep hb2
      have HB2 := step_below HB hb2
      have hc := HR2.out.word hgn
      have hf := HR2.out.frozen (g * 17)
      have HR3 : Hid (Row (w2.setCell ⟨b, g * 17, none⟩ (.int .u64 (n8 : Nat))) b n (zk n (g + 1))) := by
        show Row _ _ _ _
        rw [← HE8.out]
        refine HR2.out.whole new8 (wrd_zk_yes hgn (by omega)) ?_ ?_
        · intro g' hg' hne
          by_cases hlt : g' < g
          · rw [wrd_zk_yes hg' (by omega), wrd_zk_yes hg' hlt]
          · rw [wrd_zk_no hg' (by omega), wrd_zk_no hg' (by omega)]
        · intro q hq
          rw [cel_zk _ hq, cel_zk _ hq]
      have HB3 : Hid (Below w.heap.size w (w2.setCell ⟨b, g * 17, none⟩ (.int .u64 (n8 : Nat)))) := HB2.out.setCell (p := ⟨b, g * 17, none⟩) (by rw [HBb.out]; exact Nat.le_refl _) _
      generalize val (wrd (zk n g) g) = wv at hc
      clear hb2
      go_wp2
      go_roundg (gk - 1)
      case measure => omega
      case rel => exact ⟨g + 1, by omega, by go_num, HR3, HB3⟩
    · have : g = n := by omega
      subst this
      go_wp2
      go_ret
      exact ⟨by rw [HBb.out]; rfl, HB.out, by rw [HBb.out, ← zk_all]; exact HR.out⟩

theorem New_tab (x : Nat) (w : World) (hx : x < 18446744073709551616) :
    Calls Try.prog 34 #[.int .u64 x] w fun e w' => Below w.heap.size w w' ∧ ∃ p b, e = .returned (ptr p) ∧ Tab w' w.heap.size p b x 1 (news0 1) ∧ w.heap.size ≤ p := by
  have HE := emptyGroups_any 1 w (by decide)
  obtain ⟨b, hb⟩ : ∃ b, w.heap.size = b := ⟨_, rfl⟩
  have HBb : Hid (w.heap.size = b) := hb
  rw [hb] at HE
  clear hb
  go_enter Try.func34, Try.ntmps34
  go_wp2_with fail
  refine HE.mono ?_
  rintro e w1 ⟨rfl, hb1, hR⟩
  have HR : Hid (Row w1 b 1 (news0 1)) := hR
  have HB1 : Hid (Below b w w1) := hb1
  clear hR hb1
  go_wp2
  go_ret
  have hb2 := alloc_below w1 (.cells #[.int .u64 (x : Int), .slice (some ⟨b, 0, none⟩) 1 1] 88)
  have hs := HB1.out.size
  rw [HBb.out] at hs ⊢
  exact ⟨HB1.out.trans (hb2.mono hs), _, b, rfl, ⟨⟨heap_alloc_new w1 _⟩, HR.out.keep hb2, hs, Nat.le_refl _, Inv.news x (.inl rfl), hx, fun e he => by rw [ents_news0] at he; cases he⟩, hs⟩
end Go.Proofs.Ytejnmikbbnckeaa
