/-
  Cut; known; chain.
-/
import Derived.Test.YtnbiejedmakaaaaDoorDepth
import Derived.Test.YtnbiejedmakaaaaDoorShown
namespace Go.Proofs.YtnbiejedmakaaaaDoor
open Go.RowKit Go.Extern.Stop Go.Stop Go.Extern

theorem shown_get : shownB ⟨#[103, 101, 116]⟩ = ⟨#[103, 101, 116]⟩ := by decide +kernel

set_option maxHeartbeats 1000000 in
theorem Text_get (w : World) : Calls Tryd.prog 9 #[.int .i64 2, .string ⟨#[103, 101, 116]⟩] w fun e w' => e = .returned (.string ⟨#[69, 82, 82, 32, 119, 114, 111, 110, 103, 32, 110, 117, 109, 98, 101, 114, 32, 111, 102, 32, 97, 114, 103, 117, 109, 101, 110, 116, 115, 32, 102, 111, 114, 32, 39, 103, 101, 116, 39, 32, 99, 111, 109, 109, 97, 110, 100]⟩) ∧ Below w.heap.size w w' := by
  go_enter Tryd.func9, Tryd.ntmps9
  go_wp2_with (go_at_call 26; refine (shown_any ⟨#[103, 101, 116]⟩ _ (by decide)).mono ?_; rintro e w' ⟨rfl, hb⟩; rw [shown_get])
  go_ret
  exact ⟨rfl, hb⟩

set_option maxHeartbeats 1000000 in
theorem known_any (w : World) (hg : Laid w) : Calls Tryd.prog 17 #[] w fun e w' => e = .returned (.bool true) ∧ Below w.heap.size w w' := by
  have HG : Hid (Laid w) := hg
  have hpos := lt_of_cell? hg
  clear hg
  go_enter Tryd.func17, Tryd.ntmps17
  go_wp2_with fail
  refine (New_err _ 4 (by decide) _).mono ?_
  rintro e w1 ⟨rfl, rfl⟩
  go_wp2_with fail
  have HL1 : Hid (Laid (newW w ⟨#[98]⟩ (codeV 4))) := HG.out.keep (newW_below _ _ _) hpos
  refine (Wrap_code _ _ 4 1 _ HL1.out (by decide) (Chain.leaf.new _)).mono ?_
  rintro e w2 ⟨b, rfl, hb2, -, -, hc2⟩
  have HB2 : Hid (Below w.heap.size w w2) := (newW_below _ _ _).trans (hb2.mono (by simp))
  have HC2 : Hid (Chain w2 (codeV 4) (.iface 36 (.pointer (some ⟨b, 0, none⟩))) 2) := hc2
  clear hb2 hc2
  go_wp2_with fail
  refine (Code_code _ 4 2 _ (HG.out.keep HB2.out hpos) HC2.out).mono ?_
  rintro e w3 ⟨rfl, hb3⟩
  have HB3 : Hid (Below w.heap.size w w3) := HB2.out.trans (hb3.mono HB2.out.size)
  clear hb3
  go_wp2_with fail
  refine (Code_nil _).mono ?_
  rintro e w4 ⟨rfl, rfl⟩
  go_wp2_with fail
  refine (Wrap_nil _ _).mono ?_
  rintro e w5 ⟨rfl, rfl⟩
  go_wp2_with fail
  refine (Text_get _).mono ?_
  rintro e w6 ⟨rfl, hb6⟩
  have HB6 : Hid (Below w.heap.size w w6) := HB3.out.trans (hb6.mono HB3.out.size)
  clear hb6
  go_wp2
  go_ret
  exact ⟨rfl, HB6.out⟩

def cutB (s : ByteArray) (n : Int) : ByteArray := if n < (s.size : Int) then s.extract 0 n.toNat else s

theorem Cut_any (s : ByteArray) (n : Int) (w : World) (h0 : 0 ≤ n) :
    Calls Tryd.prog 19 #[.string s, .int .i64 n] w fun e w' => e = .returned (.string (cutB s n)) ∧ w' = w := by
  by_cases h : n < s.size
  · have HC : Hid (cutB s n = s.extract 0 n.toNat) := by show cutB s n = _; rw [cutB, if_pos h]
    go_enter Tryd.func19, Tryd.ntmps19
    go_wp2
    go_ret
    exact ⟨by rw [HC.out]; simp, rfl⟩
  · have HC : Hid (cutB s n = s) := by show cutB s n = _; rw [cutB, if_neg h]
    go_enter Tryd.func19, Tryd.ntmps19
    go_wp2
    go_ret
    exact ⟨by rw [HC.out]; rfl, rfl⟩

/-- A slice of strings, as it was read: nil, or a row. -/
def Strs (w : World) (a : Option Addr) (len : Nat) : Prop :=
  len ≤ maxLen ∧ ∀ i, i < len → ∃ b off s, a = some ⟨b, off, none⟩ ∧ w.cell? ⟨b, off + i, none⟩ = some (.string s) ∧ s.size ≤ maxLen

/-- The command of the outermost fault behind k rounds. -/
def Last (w : World) (a : Option Addr) (k : Nat) (s : ByteArray) : Prop :=
  (k = 0 ∧ s = ⟨#[102, 105, 114, 115, 116]⟩) ∨ ∃ b off t, 0 < k ∧ a = some ⟨b, off, none⟩ ∧ w.cell? ⟨b, off + (k - 1), none⟩ = some (.string t) ∧ s = cutB t 20

set_option maxHeartbeats 1000000 in
theorem chain_ok (a : Option Addr) (len cap : Nat) (w : World) (hs : Strs w a len) :
    Calls Tryd.prog 18 #[.int .i64 0, .slice a len cap] w fun e w' => e = .returned .nilIface ∧ w' = w := by
  obtain ⟨hl, hs⟩ := hs
  unfold maxLen at hl
  have HS : Hid (∀ i, i < len → ∃ b off s, a = some ⟨b, off, none⟩ ∧ w.cell? ⟨b, off + i, none⟩ = some (.string s) ∧ s.size ≤ maxLen) := hs
  clear hs
  go_enter Tryd.func18, Tryd.ntmps18
  go_wp2_with (go_at_call 11; refine (New_ok _ _).mono ?_; rintro e w ⟨rfl, rfl⟩)
  go_loopg [5, 6] 10 (fun g E i wr => w = wr ∧ ∃ k : Nat, k + g = 10 ∧ E = .nilIface ∧ i = .int .i64 k)
  case atStart => exact ⟨rfl, 0, rfl, rfl, rfl⟩
  case round =>
    obtain ⟨rfl, k, hk, rfl, rfl⟩ := hrel
    by_cases h1 : k < len
    · by_cases h2 : k < 10
      · obtain ⟨b, off, s, rfl, hc, hsz⟩ := HS.out k h1
        go_wp2_with (first
          | (go_at_call 19; refine (Cut_any _ _ _ (by decide)).mono ?_; rintro e w' ⟨rfl, rfl⟩)
          | (go_at_call 16; refine (Wrap_nil _ _).mono ?_; rintro e w' ⟨rfl, rfl⟩))
        go_roundg (gk - 1)
        case measure => omega
        case rel => exact ⟨rfl, k + 1, by omega, rfl, by go_num⟩
      · go_wp2
        go_ret
        exact ⟨rfl, rfl⟩
    · go_wp2
      go_ret
      exact ⟨rfl, rfl⟩

theorem Strs.keep {w w' : World} {a : Option Addr} {len B : Nat} (h : Strs w a len) (hb : Below B w w') (hB : w.heap.size ≤ B) : Strs w' a len := by
  refine ⟨h.1, fun i hi => ?_⟩
  obtain ⟨b, off, s, rfl, hc, hs⟩ := h.2 i hi
  exact ⟨b, off, s, rfl, by rw [hb.cell (p := ⟨b, off + i, none⟩) (Nat.lt_of_lt_of_le (lt_of_cell? hc) hB)]; exact hc, hs⟩

set_option maxHeartbeats 1000000 in
theorem chain_err (c : Int) (a : Option Addr) (len cap : Nat) (w : World) (hg : Laid w) (hc : ¬ c = 0) (hs : Strs w a len) :
    Calls Tryd.prog 18 #[.int .i64 c, .slice a len cap] w fun e w' => ∃ b s, e = .returned (.iface 36 (.pointer (some ⟨b, 0, none⟩))) ∧ Below w.heap.size w w' ∧
      Chain w' (codeV c) (.iface 36 (.pointer (some ⟨b, 0, none⟩))) (min len 10 + 1) ∧ w'.cell? ⟨b, 0, none⟩ = some (.string s) ∧ Last w a (min len 10) s := by
  obtain ⟨hl, hs⟩ := hs
  unfold maxLen at hl
  have HS : Hid (∀ i, i < len → ∃ b off s, a = some ⟨b, off, none⟩ ∧ w.cell? ⟨b, off + i, none⟩ = some (.string s) ∧ s.size ≤ maxLen) := hs
  have HG : Hid (Laid w) := hg
  have hpos := lt_of_cell? hg
  clear hs hg
  go_enter Tryd.func18, Tryd.ntmps18
  go_wp2_with (go_at_call 11; refine (New_err _ c hc _).mono ?_; rintro e w' ⟨rfl, rfl⟩)
  go_loopg [5, 6] 10 (fun g E i wr => ∃ k b s, k + g = 10 ∧ k ≤ len ∧ E = .iface 36 (.pointer (some ⟨b, 0, none⟩)) ∧ i = .int .i64 (k : Nat) ∧
    Hid (Below w.heap.size w wr ∧ Chain wr (codeV c) (.iface 36 (.pointer (some ⟨b, 0, none⟩))) (k + 1) ∧ wr.cell? ⟨b, 0, none⟩ = some (.string s) ∧ Last w a k s))
  case atStart => exact ⟨0, _, _, rfl, Nat.zero_le _, rfl, rfl, newW_below _ _ _, Chain.leaf.new _, by simp, Or.inl ⟨rfl, rfl⟩⟩
  case round =>
    obtain ⟨k, b, s, hk, hkl, rfl, rfl, H⟩ := hrel
    by_cases h1 : k < len
    · by_cases h2 : k < 10
      · obtain ⟨b', off, t, rfl, hc', hsz⟩ := HS.out k h1
        have hl' : b' < w.heap.size := lt_of_cell? hc'
        have hc2 : wr.cell? ⟨b', off + k, none⟩ = some (.string t) := by rw [H.out.1.cell (p := ⟨b', off + k, none⟩) hl']; exact hc'
        have HL : Hid (w.cell? ⟨b', off + k, none⟩ = some (.string t)) := hc'
        clear hc'
        go_wp2_with (first
          | (go_at_call 19; refine (Cut_any _ _ _ (by decide)).mono ?_; rintro e w' ⟨rfl, rfl⟩)
          | (go_at_call 16; refine (Wrap_code _ _ c (k + 1) _ (HG.out.keep H.out.1 hpos) hc H.out.2.1).mono ?_; rintro e w' ⟨b2, rfl, hb2, hs2, _, hc3⟩))
        go_roundg (gk - 1)
        case measure => omega
        case rel => exact ⟨k + 1, b2, _, by omega, by omega, rfl, by go_num, H.out.1.trans (hb2.mono H.out.1.size), hc3, hs2, Or.inr ⟨b', off, t, by omega, rfl, by simpa using HL.out, rfl⟩⟩
      · have hm : min len 10 = k := by omega
        have HM : Hid (min len 10 = k) := hm
        clear hm
        go_wp2
        go_ret
        refine ⟨b, s, rfl, H.out.1, ?_, H.out.2.2.1, ?_⟩
        · rw [HM.out]; exact H.out.2.1
        · rw [HM.out]; exact H.out.2.2.2
    · have hm : min len 10 = k := by omega
      have HM : Hid (min len 10 = k) := hm
      clear hm
      go_wp2
      go_ret
      refine ⟨b, s, rfl, H.out.1, ?_, H.out.2.2.1, ?_⟩
      · rw [HM.out]; exact H.out.2.1
      · rw [HM.out]; exact H.out.2.2.2
end Go.Proofs.YtnbiejedmakaaaaDoor
