/-
  Names: all names in rising order, by the library's sort.
-/
import Derived.Test.YtlapiaoopmhogaaDoorSl
import Derived.Test.YtlapiaoopmhogaaDoorLk
import Derived.Sort.OwnSorted
namespace Go.Proofs.YtlapiaoopmhogaaDoor
open Go.RowKit Go.PlainAid

def namesP : List (List UInt8) := progs.map fun c => lst c.nm
def namesR : List (List UInt8) := refs.map fun c => lst c.nm
def sortedB : List (List UInt8) → Bool
  | [] => true
  | x :: l => l.all (fun y => decide (x ≤ y)) && sortedB l
theorem sortedB_pw : ∀ {l : List (List UInt8)}, sortedB l = true → l.Pairwise (fun x y => decide (x ≤ y) = true)
  | [], _ => List.Pairwise.nil
  | x :: l, h => by
    rw [sortedB, Bool.and_eq_true] at h
    exact List.pairwise_cons.2 ⟨fun y hy => List.all_eq_true.1 h.1 y hy, sortedB_pw h.2⟩
theorem names_rise : sortedB namesR = true := by kernel_rfl
theorem names_perm : namesP.isPerm namesR = true := by kernel_rfl
theorem names_sorted : namesP.mergeSort (fun x y => decide (x ≤ y)) = namesR := by
  have tr : ∀ a b c : List UInt8, decide (a ≤ b) = true → decide (b ≤ c) = true → decide (a ≤ c) = true := fun a b c h1 h2 => by simp only [decide_eq_true_eq] at *; exact List.le_trans h1 h2
  have tt : ∀ a b : List UInt8, (decide (a ≤ b) || decide (b ≤ a)) = true := fun a b => by simp only [Bool.or_eq_true, decide_eq_true_eq]; exact List.le_total a b
  refine List.Perm.eq_of_pairwise (le := fun a b => decide (a ≤ b) = true) (fun a b _ _ h1 h2 => ?_) (List.pairwise_mergeSort tr tt namesP) (sortedB_pw names_rise) ((List.mergeSort_perm _ _).trans (List.isPerm_iff.1 names_perm))
  simp only [decide_eq_true_eq] at h1 h2
  exact List.le_antisymm h1 h2
theorem Own_low {w : World} {B C : Nat} {a : Option Addr} {n c : Nat} {ls : List ByteArray} (h : OwnS w B a n c ls) (hC : C ≤ B) : OwnS w C a n c ls := by
  refine ⟨h.1, ?_⟩
  rcases h.2 with h2 | ⟨g, cap, cur, h1, h3, h4⟩
  · exact .inl h2
  · exact .inr ⟨g, cap, cur, h1, Nat.le_trans hC h3, h4⟩
theorem enc_names (l : List Cm) : (l.map fun c => lst c.nm).map encStr = (l.map Cm.nm).map Value.string := by
  rw [List.map_map, List.map_map]
  exact List.map_congr_left fun c _ => congrArg Value.string (bs_lst c.nm)

set_option maxRecDepth 100000 in
theorem Sort_any (B : Nat) (a : Option Addr) (c : Nat) (w : World) (h : OwnS w B a 81 c (progs.map Cm.nm)) (hB : B ≤ w.heap.size) :
    Calls Tryd.prog 25 #[.slice a 81 c] w fun e w' => e = .returned (.tuple #[]) ∧ OwnS w' B a 81 c (refs.map Cm.nm) ∧ Below B w w' := by
  have hl : namesP.length = 81 := by kernel_rfl
  have hr : namesR.length = namesP.length := by kernel_rfl
  have h0 : w.ownsRow B 9 1 (.slice a 81 c) 81 (namesP.map encStr) := by
    rw [namesP, enc_names]; exact h
  rcases h0.2 with ⟨hnil, h1⟩ | ⟨g, cap, cur, hv, hbase, hb, h1, h2, h3, h4⟩
  · exact absurd h1 (by decide)
  · cases hv
    have hH : Go.Sort.Holds encStr w g 0 namesP.toArray := holds_of_block hb (by rw [hl]; simpa using h4)
    have hC := Any.slices_Sort_string lays190 g 0 c namesP w hH (Array.getElem?_eq_some_iff.1 hb).1 (by rw [hl]; decide)
    rw [names_sorted, hl] at hC
    refine hC.mono fun e w' h => ?_
    obtain ⟨he, n, os, hw⟩ := h
    subst hw
    refine ⟨he, ?_, ?_⟩
    · have := ownsRow_sorted (n := n) (os := os) hr hbase hb (by rw [hl]; exact h1) h2 h3
      rw [hl] at this
      show World.ownsRow _ _ _ _ _ _ ((refs.map Cm.nm).map Value.string)
      rw [← enc_names]
      exact this
    · exact (Below.refl B w).grown (grownBy_sorted namesR.toArray) hB (fun k hk => by cases hk; exact hbase)

set_option maxRecDepth 100000 in
set_option maxHeartbeats 4000000 in
theorem Names_any (w : World) : Calls Tryd.prog 8 #[] w fun e w' => Below w.heap.size w w' ∧ ∃ a c, e = .returned (.slice a 81 c) ∧ Hid (OwnS w' w.heap.size a 81 c (refs.map Cm.nm)) := by
  have HO : Hid (OwnS w w.heap.size none 0 0 ((progs.take 0).map Cm.nm)) := World.ownsRow_nil w _ 9 1
  go_enter Tryd.func8, Tryd.ntmps8
  go_upto_region 3 with (go_at_call 24; refine (table_any w.heap.size none 0 _ (OwnT.nil w _ 5) (Nat.le_refl _)).mono ?_; rintro e w1 ⟨ta, tc, rfl, HT, HB1⟩)
  have HO1 : Hid (OwnS w1 w1.heap.size none 0 0 ((progs.take 0).map Cm.nm)) := World.ownsRow_nil w1 _ 9 1
  clear HO
  go_loopg [1, 6] 81 (fun g ov iv wr => ∃ (k : Nat) (a2 : Option Addr) (n2 c2 : Nat), k + g = 81 ∧ iv = .int .i64 k ∧ ov = .slice a2 n2 c2 ∧ Hid (OwnS wr w1.heap.size a2 n2 c2 ((progs.take k).map Cm.nm)) ∧ Hid (Below w1.heap.size w1 wr))
  case atStart => exact ⟨0, none, 0, 0, rfl, rfl, rfl, HO1, Below.refl _ _⟩
  case round =>
    obtain ⟨k, a2, n2, c2, hk, rfl, rfl, HO, HB⟩ := hrel
    have HN2 : Hid (n2 + 1 ≤ 1000000) := by
      have h1 := HO.out.len
      rw [List.length_map, List.length_take] at h1
      show _ ≤ _; omega
    by_cases h1 : (k : Int) < 81
    · obtain ⟨cm, hc⟩ := getElem_some progs_len (show k < 81 by omega)
      obtain ⟨g, rfl, s0, s1, s2, s3, s4⟩ := OwnC.cells (OwnT.keep HT.out HB.out) hc
      have HS : Hid ((progs.take (k + 1)).map Cm.nm = (progs.take k).map Cm.nm ++ [cm.nm]) := by
        show _ = _
        rw [List.take_add_one, hc, List.map_append]; rfl
      clear hc
      obtain ⟨nm, lo, hi, wb, gr⟩ := cm
      simp only at s0 s1 s2 s3 s4 HS
      have hsz := HB.out.size
      go_wp2_with (at_builtin; refine append_str rfl (.tmp 10) (.tmp 13) rfl w1.heap.size rfl (HO.out.keep ((alloc_below wr (.cells #[.string nm, .int .i64 lo, .int .i64 hi, .bool wb, .int .i64 gr] 27)).trans ((alloc_below _ _).mono (alloc_below wr _).size))) rfl (by simp; rfl) HN2.out (Nat.le_trans hsz (Nat.le_trans (alloc_below wr (.cells #[.string nm, .int .i64 lo, .int .i64 hi, .bool wb, .int .i64 gr] 27)).size (alloc_below _ _).size)) ?_; intro a3 n3 c3 w3 hn3 hO3 hB3; have HO3 : Hid (OwnS w3 w1.heap.size a3 n3 c3 ((progs.take (k + 1)).map Cm.nm)) := (by rw [HS.out]; exact hO3); have HB3 : Hid (Below w1.heap.size w1 w3) := (HB.out.trans (((alloc_below wr (.cells #[.string nm, .int .i64 lo, .int .i64 hi, .bool wb, .int .i64 gr] 27)).trans ((alloc_below _ _).mono (alloc_below wr _).size)).mono HB.out.size)).trans hB3; clear hn3 hO3 hB3)
      go_roundg (gk - 1)
      case measure => omega
      case rel => exact ⟨k + 1, _, _, _, by omega, by go_num, rfl, HO3, HB3⟩
    · have hE : (progs.take k).map Cm.nm = progs.map Cm.nm := by rw [List.take_of_length_le (by rw [progs_len]; omega)]
      rw [hE] at HO
      have hn : n2 = 81 := by rw [← HO.out.len, List.length_map, progs_len]
      subst hn
      have HSrt := Sort_any w1.heap.size a2 c2 wr HO.out HB.out.size
      clear hE
      go_wp2_with (go_at_call 25; refine HSrt.mono ?_; rintro e w4 ⟨rfl, hO4, hB4⟩)
      go_ret
      refine ⟨HB1.out.trans ((HB.out.trans hB4).mono HB1.out.size), _, _, rfl, ?_⟩
      exact Own_low hO4 HB1.out.size
end Go.Proofs.YtlapiaoopmhogaaDoor
