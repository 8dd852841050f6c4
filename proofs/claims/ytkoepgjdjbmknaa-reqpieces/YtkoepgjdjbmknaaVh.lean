/-
  A text cut, a number brought into bounds, few texts, texts held against one another.
-/
import Derived.Test.YtkoepgjdjbmknaaRr
import Derived.Test.YtkoepgjdjbmknaaEx
namespace Go.Proofs.Ytkoepgjdjbmknaa
open Go.RowKit Go.PlainAid

def cutB (s : ByteArray) (n : Int) : ByteArray := if n < (s.size : Int) then s.extract 0 n.toNat else s
theorem size_cutB (s : ByteArray) (n : Int) (h : 0 ≤ n) : ((cutB s n).size : Int) ≤ n := by
  unfold cutB
  split
  · simp; omega
  · omega

theorem Cut_any (s : ByteArray) (n : Int) (w : World) (h0 : 0 ≤ n) :
    Calls Try.prog 16 #[.string s, .int .i64 n] w fun e w' => e = .returned (.string (cutB s n)) ∧ w' = w := by
  by_cases h : n < s.size
  · have HC : Hid (cutB s n = s.extract 0 n.toNat) := by show cutB s n = _; rw [cutB, if_pos h]
    go_enter Try.func16, Try.ntmps16
    go_wp2
    go_ret
    exact ⟨by rw [HC.out]; simp, rfl⟩
  · have HC : Hid (cutB s n = s) := by show cutB s n = _; rw [cutB, if_neg h]
    go_enter Try.func16, Try.ntmps16
    go_wp2
    go_ret
    exact ⟨by rw [HC.out]; rfl, rfl⟩

theorem Within_any (n lo hi : Int) (w : World) (h0 : lo ≤ hi) (h1 : hi ≤ 1000000) (h2 : -1000000 ≤ lo) :
    Calls Try.prog 15 #[.int .i64 n, .int .i64 lo, .int .i64 hi] w fun e w' => w' = w ∧ ∃ z : Int, lo ≤ z ∧ z ≤ hi ∧ e = .returned (.int .i64 z) := by
  obtain ⟨D, hD⟩ : ∃ D, hi - lo = D := ⟨_, rfl⟩
  have hz : (D + 1 == 0) = false := by simp; omega
  have hr0 : n.tmod (D + 1) < D + 1 := Int.tmod_lt_of_pos n (by omega)
  have hr1 : -(D + 1) < n.tmod (D + 1) := Int.lt_tmod_of_pos n (by omega)
  obtain ⟨r, hr⟩ : ∃ r, n.tmod (D + 1) = r := ⟨_, rfl⟩
  rw [hr] at hr0 hr1
  by_cases hn : r < 0
  · obtain ⟨r1, e1⟩ : ∃ r1, r + hi = r1 := ⟨_, rfl⟩
    obtain ⟨r2, e2⟩ : ∃ r2, r1 - lo = r2 := ⟨_, rfl⟩
    go_enter Try.func15, Try.ntmps15
    go_wp2
    go_ret
    exact ⟨rfl, lo + (r2 + 1), by omega, by omega, rfl⟩
  · go_enter Try.func15, Try.ntmps15
    go_wp2
    go_ret
    exact ⟨rfl, lo + r, by omega, by omega, rfl⟩

theorem drewN_drewN (w : World) (i j : Nat) : (w.drewN i).drewN j = w.drewN (i + j) := by
  induction j with
  | zero => rfl
  | succ j ih => exact congrArg World.drew ih

/-- The first k texts, each cut. -/
def fewL (k : Nat) (m : Int) (ls : List ByteArray) : List ByteArray := (ls.take k).map fun s => cutB s m
theorem fewL_len (k : Nat) (m : Int) (ls : List ByteArray) : (fewL k m ls).length ≤ k := by
  unfold fewL; rw [List.length_map, List.length_take]; omega
theorem fewL_size (k : Nat) (m : Int) (ls : List ByteArray) (hm : 0 ≤ m) : ∀ s ∈ fewL k m ls, (s.size : Int) ≤ m := by
  intro s hs
  unfold fewL at hs
  rw [List.mem_map] at hs
  obtain ⟨t, -, rfl⟩ := hs
  exact size_cutB t m hm
theorem fewL_step (m : Int) (ls : List ByteArray) (i : Nat) (h : i < ls.length) : fewL (i + 1) m ls = fewL i m ls ++ [cutB (ls.getD i ByteArray.empty) m] := by
  unfold fewL
  rw [List.take_add_one, List.getD_eq_getElem?_getD, List.getElem?_eq_getElem h, List.map_append]; rfl
theorem fewL_all (k i : Nat) (m : Int) (ls : List ByteArray) (h : i ≤ k) (h2 : ls.length ≤ i) : fewL i m ls = fewL k m ls := by
  unfold fewL
  rw [List.take_of_length_le h2, List.take_of_length_le (by omega)]

set_option maxRecDepth 100000 in
set_option maxHeartbeats 4000000 in
theorem Few_any (a : Option Addr) (n cap : Nat) (ls : List ByteArray) (k : Nat) (m : Int) (w : World) (hR : RdS w a n ls) (hk : k ≤ 100) (hm : 0 ≤ m) :
    Calls Try.prog 19 #[.slice a n cap, .int .i64 k, .int .i64 m] w fun e w' => Below w.heap.size w w' ∧ ∃ a2 n2 c2, e = .returned (.slice a2 n2 c2) ∧ OwnS w' w.heap.size a2 n2 c2 (fewL k m ls) := by
  have hn : n ≤ 9223372036854775807 := hR.max
  have HR : Hid (RdS w a n ls) := hR
  have HNL : Hid (ls.length = n) := hR.len
  have HO : Hid (OwnS w w.heap.size none 0 0 (fewL 0 m ls)) := World.ownsRow_nil w _ 9 1
  have HC := fun s w => Cut_any s m w hm
  clear hR
  go_enter Try.func19, Try.ntmps19
  go_wp2
  go_loopg [7, 8] k (fun g bv iv wr => ∃ (i : Nat) (a2 : Option Addr) (n2 c2 : Nat), i + g = k ∧ i ≤ n ∧ bv = .slice a2 n2 c2 ∧ iv = .int .i64 i ∧ Hid (OwnS wr w.heap.size a2 n2 c2 (fewL i m ls)) ∧ Hid (Below w.heap.size w wr))
  case atStart => exact ⟨0, none, 0, 0, by omega, Nat.zero_le _, rfl, rfl, HO, Below.refl _ _⟩
  case round =>
    obtain ⟨i, a2, n2, c2, hi, hin, rfl, rfl, HO, HB⟩ := hrel
    by_cases h1 : (i : Int) < n
    · by_cases h2 : (i : Int) < k
      · obtain ⟨b, off, ha, hc⟩ := HR.out.cell i (by omega)
        subst ha
        have hc1 : wr.cell? ⟨b, off + i, none⟩ = some (.string (ls.getD i ByteArray.empty)) := by
          rw [HB.out.cell (p := ⟨b, off + i, none⟩) (World.block_lt_of_cell? _ _ hc)]; exact hc
        have HS : Hid (fewL (i + 1) m ls = fewL i m ls ++ [cutB (ls.getD i ByteArray.empty) m]) := fewL_step m ls i (by rw [HNL.out]; omega)
        generalize ls.getD i ByteArray.empty = s at hc1 HS
        have hl2 : n2 + 1 ≤ 1000000 := by
          have h3 := HO.out.len
          have h4 := fewL_len i m ls
          omega
        have HL : Hid (n2 + 1 ≤ 1000000) := hl2
        have HCs := fun w => HC s w
        generalize cutB s m = t at HS HCs
        have hsz := HB.out.size
        clear hl2 hc
        go_wp2_with (first | (go_at_call 16; refine (HCs _).mono ?_; rintro e wr ⟨rfl, rfl⟩) | (at_builtin; refine append_str rfl (.tmp 20) (.tmp 27) rfl w.heap.size rfl (HO.out.keep (alloc_below wr _)) rfl (by simp; rfl) HL.out (Nat.le_trans hsz (alloc_below wr _).size) ?_; intro a3 n3 c3 w3 hn3 hO3 hB3; have HO3 : Hid (OwnS w3 w.heap.size a3 n3 c3 (fewL (i + 1) m ls)) := (by rw [HS.out]; exact hO3); have HB3 : Hid (Below w.heap.size w w3) := (HB.out.trans ((alloc_below wr _).mono hsz)).trans hB3; clear hn3 hO3 hB3))
        go_roundg (gk - 1)
        case measure => omega
        case rel => exact ⟨i + 1, _, _, _, by omega, by omega, rfl, by go_num, HO3, HB3⟩
      · have hik : i = k := by omega
        subst hik
        go_wp2
        go_ret
        exact ⟨HB.out, _, _, _, rfl, HO.out⟩
    · have HE : Hid (fewL i m ls = fewL k m ls) := fewL_all k i m ls (by omega) (by rw [HNL.out]; omega)
      go_wp2
      go_ret
      exact ⟨HB.out, _, _, _, rfl, by rw [← HE.out]; exact HO.out⟩

theorem lists_more {ls ls' : List ByteArray} {k : Nat} (h : ls.take k = ls'.take k) (h1 : k < ls.length) (h2 : k < ls'.length) (he : ls.getD k ByteArray.empty = ls'.getD k ByteArray.empty) : ls.take (k + 1) = ls'.take (k + 1) := by
  rw [List.getD_eq_getElem?_getD, List.getD_eq_getElem?_getD, List.getElem?_eq_getElem h1, List.getElem?_eq_getElem h2] at he
  rw [List.take_add_one, List.take_add_one, h, List.getElem?_eq_getElem h1, List.getElem?_eq_getElem h2]
  simp only [Option.getD_some] at he
  rw [he]

set_option maxRecDepth 100000 in
theorem Lists_any (a a' : Option Addr) (n c n' c' : Nat) (ls ls' : List ByteArray) (w : World) (h : RdS w a n ls) (h' : RdS w a' n' ls') :
    Calls Try.prog 18 #[.slice a n c, .slice a' n' c'] w fun e w' => e = .returned (.bool (decide (ls = ls'))) ∧ ∃ q, w' = w.drewN q := by
  have hl := h.len
  have hl' := h'.len
  have hn63 : n ≤ 9223372036854775807 := h.max
  by_cases hn : n = n'
  · subst hn
    have HH : Hid (RdS w a n ls) := h
    have HH' : Hid (RdS w a' n ls') := h'
    have HL : Hid (ls.length = n) := hl
    have HL' : Hid (ls'.length = n) := hl'
    clear h h' hl hl'
    go_enter Try.func18, Try.ntmps18
    go_wp2
    go_loopg [5] n (fun g iv wr => ∃ (k q : Nat), iv = .int .i64 k ∧ Hid (wr = w.drewN q) ∧ Hid (k + g = n) ∧ Hid (ls.take k = ls'.take k))
    case atStart => exact ⟨0, 0, rfl, rfl, by show _ = _; omega, rfl⟩
    case round =>
      obtain ⟨k, q, rfl, HW, HK, HT⟩ := hrel
      by_cases hk : (k : Int) < n
      · have hkn : k < n := by omega
        have HB : Hid (Below w.heap.size w wr) := by show Below _ _ _; rw [HW.out]; exact below_drewN _ _
        obtain ⟨b, off, rfl, hc⟩ := HH.out.cell k hkn
        obtain ⟨b', off', rfl, hc'⟩ := HH'.out.cell k hkn
        have hd : ∀ j, (wr.drewN j).cell? ⟨b, off + k, none⟩ = some (.string (ls.getD k ByteArray.empty)) := fun j => by
          rw [(HB.out.trans ((below_drewN wr j).mono HB.out.size)).cell (p := ⟨b, off + k, none⟩) (World.block_lt_of_cell? _ _ hc)]; exact hc
        have hd' : ∀ j, (wr.drewN j).cell? ⟨b', off' + k, none⟩ = some (.string (ls'.getD k ByteArray.empty)) := fun j => by
          rw [(HB.out.trans ((below_drewN wr j).mono HB.out.size)).cell (p := ⟨b', off' + k, none⟩) (World.block_lt_of_cell? _ _ hc')]; exact hc'
        obtain ⟨s, hs⟩ : ∃ s, ls.getD k ByteArray.empty = s := ⟨_, rfl⟩
        obtain ⟨s', hs'⟩ : ∃ s, ls'.getD k ByteArray.empty = s := ⟨_, rfl⟩
        rw [hs] at hd
        rw [hs'] at hd'
        clear hc hc'
        by_cases he : s = s'
        · have hbe : (s.toList == s'.toList) = true := by rw [toList_beq, decide_eq_true he]
          have HT2 : Hid (ls.take (k + 1) = ls'.take (k + 1)) := lists_more HT.out (by rw [HL.out]; exact hkn) (by rw [HL'.out]; exact hkn) (by rw [hs, hs', he])
          clear hs hs' he
          go_wp2
          go_quiet (fail)
          go_wp2
          go_roundg (gk - 1)
          case measure => have := HK.out; omega
          case rel => exact ⟨k + 1, _, by go_num, by show _ = _; rw [HW.out, drewN_drewN], by have := HK.out; show _ = _; omega, HT2⟩
        · have hbe : (s.toList == s'.toList) = false := by rw [toList_beq, decide_eq_false he]
          have HN : Hid (decide (ls = ls') = false) := by
            show _ = _
            refine decide_eq_false fun h => he ?_
            rw [← hs, ← hs', h]
          clear hs hs' he
          go_wp2
          go_quiet (fail)
          go_wp2
          go_ret
          exact ⟨by rw [HN.out]; rfl, _, by rw [HW.out, drewN_drewN]⟩
      · have HE : Hid (decide (ls = ls') = true) := by
          show _ = _
          refine decide_eq_true ?_
          have := HT.out
          rw [List.take_of_length_le (by rw [HL.out]; omega), List.take_of_length_le (by rw [HL'.out]; omega)] at this
          exact this
        go_wp2
        go_ret
        exact ⟨by rw [HE.out]; rfl, q, HW.out⟩
  · have hne : ((n : Int) != (n' : Int)) = true := by simp only [bne_iff_ne, ne_eq]; omega
    have HN : Hid (decide (ls = ls') = false) := by
      show _ = _
      refine decide_eq_false fun h => hn ?_
      rw [← hl, ← hl', h]
    clear h h' hl hl' hn
    go_enter Try.func18, Try.ntmps18
    go_wp2
    go_ret
    exact ⟨by rw [HN.out]; rfl, 0, rfl⟩
end Go.Proofs.Ytkoepgjdjbmknaa
