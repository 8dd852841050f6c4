/-
  A text cut, a number brought into bounds, few texts, texts held against one another.
-/
import Derived.Test.YtlapiaoopmhogaaDoorRr
import Derived.Test.YtlapiaoopmhogaaDoorEx
namespace Go.Proofs.YtlapiaoopmhogaaDoor
open Go.RowKit Go.PlainAid

def cutB (s : ByteArray) (n : Int) : ByteArray := if n < (s.size : Int) then s.extract 0 n.toNat else s
theorem size_cutB (s : ByteArray) (n : Int) (h : 0 ≤ n) : ((cutB s n).size : Int) ≤ n := by
  unfold cutB
  split
  · simp; omega
  · omega

theorem Cut_any (s : ByteArray) (n : Int) (w : World) (h0 : 0 ≤ n) :
    Calls Tryd.prog 27 #[.string s, .int .i64 n] w fun e w' => e = .returned (.string (cutB s n)) ∧ w' = w := by
  by_cases h : n < s.size
  · have HC : Hid (cutB s n = s.extract 0 n.toNat) := by show cutB s n = _; rw [cutB, if_pos h]
    go_enter Tryd.func27, Tryd.ntmps27
    go_wp2
    go_ret
    exact ⟨by rw [HC.out]; simp, rfl⟩
  · have HC : Hid (cutB s n = s) := by show cutB s n = _; rw [cutB, if_neg h]
    go_enter Tryd.func27, Tryd.ntmps27
    go_wp2
    go_ret
    exact ⟨by rw [HC.out]; rfl, rfl⟩

theorem Within_any (n lo hi : Int) (w : World) (h0 : lo ≤ hi) (h1 : hi ≤ 2000000) (h2 : -1000000 ≤ lo) :
    Calls Tryd.prog 28 #[.int .i64 n, .int .i64 lo, .int .i64 hi] w fun e w' => w' = w ∧ ∃ z : Int, lo ≤ z ∧ z ≤ hi ∧ e = .returned (.int .i64 z) := by
  obtain ⟨D, hD⟩ : ∃ D, hi - lo = D := ⟨_, rfl⟩
  have hz : (D + 1 == 0) = false := by simp; omega
  have hr0 : n.tmod (D + 1) < D + 1 := Int.tmod_lt_of_pos n (by omega)
  have hr1 : -(D + 1) < n.tmod (D + 1) := Int.lt_tmod_of_pos n (by omega)
  obtain ⟨r, hr⟩ : ∃ r, n.tmod (D + 1) = r := ⟨_, rfl⟩
  rw [hr] at hr0 hr1
  by_cases hn : r < 0
  · obtain ⟨r1, e1⟩ : ∃ r1, r + hi = r1 := ⟨_, rfl⟩
    obtain ⟨r2, e2⟩ : ∃ r2, r1 - lo = r2 := ⟨_, rfl⟩
    go_enter Tryd.func28, Tryd.ntmps28
    go_wp2
    go_ret
    exact ⟨rfl, lo + (r2 + 1), by omega, by omega, rfl⟩
  · go_enter Tryd.func28, Tryd.ntmps28
    go_wp2
    go_ret
    exact ⟨rfl, lo + r, by omega, by omega, rfl⟩

theorem drewN_drewN (w : World) (i j : Nat) : (w.drewN i).drewN j = w.drewN (i + j) := by
  induction j with
  | zero => rfl
  | succ j ih => exact congrArg World.drew ih

/-- The first k texts, each cut. -/
def fewL (k : Nat) (m : Int) (ls : List ByteArray) : List ByteArray := (ls.take k).map fun s => cutB s m
theorem fewL_len (k : Nat) (m : Int) (ls : List ByteArray) : (fewL k m ls).length ≤ k := by
  unfold fewL; rw [List.length_map, List.length_take]; omega
theorem fewL_size (k : Nat) (m : Int) (ls : List ByteArray) (hm : 0 ≤ m) : ∀ s ∈ fewL k m ls, (s.size : Int) ≤ m := by
  intro s hs
  unfold fewL at hs
  rw [List.mem_map] at hs
  obtain ⟨t, -, rfl⟩ := hs
  exact size_cutB t m hm
theorem fewL_step (m : Int) (ls : List ByteArray) (i : Nat) (h : i < ls.length) : fewL (i + 1) m ls = fewL i m ls ++ [cutB (ls.getD i ByteArray.empty) m] := by
  unfold fewL
  rw [List.take_add_one, List.getD_eq_getElem?_getD, List.getElem?_eq_getElem h, List.map_append]; rfl
theorem fewL_all (k i : Nat) (m : Int) (ls : List ByteArray) (h : i ≤ k) (h2 : ls.length ≤ i) : fewL i m ls = fewL k m ls := by
  unfold fewL
  rw [List.take_of_length_le h2, List.take_of_length_le (by omega)]

set_option maxRecDepth 100000 in
set_option maxHeartbeats 4000000 in
theorem Few_any (a : Option Addr) (n cap : Nat) (ls : List ByteArray) (k : Nat) (m : Int) (w : World) (hR : RdS w a n ls) (hk : k ≤ 100) (hm : 0 ≤ m) :
    Calls Tryd.prog 13 #[.slice a n cap, .int .i64 k, .int .i64 m] w fun e w' => Below w.heap.size w w' ∧ ∃ a2 n2 c2, e = .returned (.slice a2 n2 c2) ∧ OwnS w' w.heap.size a2 n2 c2 (fewL k m ls) := by
  have hn : n ≤ 9223372036854775807 := hR.max
  have HR : Hid (RdS w a n ls) := hR
  have HNL : Hid (ls.length = n) := hR.len
  have HO : Hid (OwnS w w.heap.size none 0 0 (fewL 0 m ls)) := World.ownsRow_nil w _ 9 1
  have HC := fun s w => Cut_any s m w hm
  clear hR
  go_enter Tryd.func13, Tryd.ntmps13
  go_wp2
  go_loopg [7, 8] k (fun g bv iv wr => ∃ (i : Nat) (a2 : Option Addr) (n2 c2 : Nat), i + g = k ∧ i ≤ n ∧ bv = .slice a2 n2 c2 ∧ iv = .int .i64 i ∧ Hid (OwnS wr w.heap.size a2 n2 c2 (fewL i m ls)) ∧ Hid (Below w.heap.size w wr))
  case atStart => exact ⟨0, none, 0, 0, by omega, Nat.zero_le _, rfl, rfl, HO, Below.refl _ _⟩
  case round =>
    obtain ⟨i, a2, n2, c2, hi, hin, rfl, rfl, HO, HB⟩ := hrel
    by_cases h1 : (i : Int) < n
    · by_cases h2 : (i : Int) < k
      · obtain ⟨b, off, ha, hc⟩ := HR.out.cell i (by omega)
        subst ha
        have hc1 : wr.cell? ⟨b, off + i, none⟩ = some (.string (ls.getD i ByteArray.empty)) := by
          rw [HB.out.cell (p := ⟨b, off + i, none⟩) (World.block_lt_of_cell? _ _ hc)]; exact hc
        have HS : Hid (fewL (i + 1) m ls = fewL i m ls ++ [cutB (ls.getD i ByteArray.empty) m]) := fewL_step m ls i (by rw [HNL.out]; omega)
        generalize ls.getD i ByteArray.empty = s at hc1 HS
        have hl2 : n2 + 1 ≤ 1000000 := by
          have h3 := HO.out.len
          have h4 := fewL_len i m ls
          omega
        have HL : Hid (n2 + 1 ≤ 1000000) := hl2
        have HCs := fun w => HC s w
        generalize cutB s m = t at HS HCs
        have hsz := HB.out.size
        clear hl2 hc
        go_wp2_with (first | (go_at_call 27; refine (HCs _).mono ?_; rintro e wr ⟨rfl, rfl⟩) | (at_builtin; refine append_str rfl (.tmp 20) (.tmp 27) rfl w.heap.size rfl (HO.out.keep (alloc_below wr _)) rfl (by simp; rfl) HL.out (Nat.le_trans hsz (alloc_below wr _).size) ?_; intro a3 n3 c3 w3 hn3 hO3 hB3; have HO3 : Hid (OwnS w3 w.heap.size a3 n3 c3 (fewL (i + 1) m ls)) := (by rw [HS.out]; exact hO3); have HB3 : Hid (Below w.heap.size w w3) := (HB.out.trans ((alloc_below wr _).mono hsz)).trans hB3; clear hn3 hO3 hB3))
        go_roundg (gk - 1)
        case measure => omega
        case rel => exact ⟨i + 1, _, _, _, by omega, by omega, rfl, by go_num, HO3, HB3⟩
      · have hik : i = k := by omega
        subst hik
        go_wp2
        go_ret
        exact ⟨HB.out, _, _, _, rfl, HO.out⟩
    · have HE : Hid (fewL i m ls = fewL k m ls) := fewL_all k i m ls (by omega) (by rw [HNL.out]; omega)
      go_wp2
      go_ret
      exact ⟨HB.out, _, _, _, rfl, by rw [← HE.out]; exact HO.out⟩

theorem lists_more {ls ls' : List ByteArray} {k : Nat} (h : ls.take k = ls'.take k) (h1 : k < ls.length) (h2 : k < ls'.length) (he : ls.getD k ByteArray.empty = ls'.getD k ByteArray.empty) : ls.take (k + 1) = ls'.take (k + 1) := by
  rw [List.getD_eq_getElem?_getD, List.getD_eq_getElem?_getD, List.getElem?_eq_getElem h1, List.getElem?_eq_getElem h2] at he
  rw [List.take_add_one, List.take_add_one, h, List.getElem?_eq_getElem h1, List.getElem?_eq_getElem h2]
  simp only [Option.getD_some] at he
  rw [he]

end Go.Proofs.YtlapiaoopmhogaaDoor
