/-
  The law FaultDepths, walked.
-/
import Derived.Test.YtnbiejedmakaaaaDoorKnown
namespace Go.Proofs.YtnbiejedmakaaaaDoor
open Go.RowKit Go.Extern.Stop Go.Stop Go.Extern

set_option maxHeartbeats 1000000 in
theorem depths_ok (a a2 : Option Addr) (len cap len2 cap2 : Nat) (w : World) (hg : Laid w) (hs : Strs w a len) (hs2 : Strs w a2 len2) :
    Calls Tryd.prog 8 #[.int .i64 0, .slice a len cap, .slice a2 len2 cap2] w fun e w' => e = .returned (.bool true) ∧ Below w.heap.size w w' := by
  have HS : Hid (Strs w a len) := hs
  have HS2 : Hid (Strs w a2 len2) := hs2
  have hl2 := hs2.1
  unfold maxLen at hl2
  have HG : Hid (Laid w) := hg
  have hpos := lt_of_cell? hg
  clear hs hs2 hg
  go_enter Tryd.func8, Tryd.ntmps8
  go_wp2_with (go_at_call 18; refine (chain_ok a len cap _ HS.out).mono ?_; rintro e w ⟨rfl, rfl⟩)
  go_loopg [8, 9, 10] 10 (fun g E n i wr => w = wr ∧ ∃ k : Nat, k + g = 10 ∧ E = .nilIface ∧ n = .int .i64 k ∧ i = .int .i64 k)
  case atStart => exact ⟨rfl, 0, rfl, rfl, rfl, rfl⟩
  case round =>
    obtain ⟨rfl, k, hk, rfl, rfl, rfl⟩ := hrel
    by_cases h1 : k < len2
    · by_cases h2 : k < 10
      · obtain ⟨b, off, s, rfl, hc, hsz⟩ := HS2.out.2 k h1
        go_wp2_with (first
          | (go_at_call 19; refine (Cut_any _ _ _ (by decide)).mono ?_; rintro e w' ⟨rfl, rfl⟩)
          | (go_at_call 16; refine (Wrap_nil _ _).mono ?_; rintro e w' ⟨rfl, rfl⟩))
        go_roundg (gk - 1)
        case measure => omega
        case rel => exact ⟨rfl, k + 1, by omega, rfl, by go_num, by go_num⟩
      · go_wp2_with (first
          | (go_at_call 14; refine (Depth_chain .nilIface .nilIface 0 _ noFault_nil HG.out (by decide) .leaf).mono ?_; rintro e w1 ⟨rfl, hb1⟩)
          | (go_at_call 17; refine (known_any _ (HG.out.keep hb1 hpos)).mono ?_; rintro e w2 ⟨rfl, hb2⟩))
        go_ret
        exact ⟨rfl, hb1.trans (hb2.mono hb1.size)⟩
    · go_wp2_with (first
        | (go_at_call 14; refine (Depth_chain .nilIface .nilIface 0 _ noFault_nil HG.out (by decide) .leaf).mono ?_; rintro e w1 ⟨rfl, hb1⟩)
        | (go_at_call 17; refine (known_any _ (HG.out.keep hb1 hpos)).mono ?_; rintro e w2 ⟨rfl, hb2⟩))
      go_ret
      exact ⟨rfl, hb1.trans (hb2.mono hb1.size)⟩

/-- What is left behind the loop: the same two ways out. -/
structure Ended (c : Int) (w wr : World) (d k b b2 : Nat) : Prop where
  below : Below w.heap.size w wr
  x : Chain wr (codeV c) (.iface 36 (.pointer (some ⟨b, 0, none⟩))) d
  y : Chain wr (codeV c) (.iface 36 (.pointer (some ⟨b2, 0, none⟩))) (d + k)

set_option maxHeartbeats 1000000 in
theorem depths_err (c : Int) (a a2 : Option Addr) (len cap len2 cap2 : Nat) (w : World) (hg : Laid w) (hc : ¬ c = 0) (hs : Strs w a len) (hs2 : Strs w a2 len2) :
    Calls Tryd.prog 8 #[.int .i64 c, .slice a len cap, .slice a2 len2 cap2] w fun e w' => e = .returned (.bool true) ∧ Below w.heap.size w w' := by
  have HS : Hid (Strs w a len) := hs
  have HS2 : Hid (Strs w a2 len2) := hs2
  have hl2 := hs2.1
  unfold maxLen at hl2
  have HG : Hid (Laid w) := hg
  have hpos := lt_of_cell? hg
  clear hs hs2 hg
  have hc0 : (c == 0) = false := by simp [hc]
  go_enter Tryd.func8, Tryd.ntmps8
  go_wp2_with (go_at_call 18; refine (chain_err c a len cap _ HG.out hc HS.out).mono ?_; rintro e w1 ⟨b, s, rfl, hb1, hch1, -, -⟩)
  have HB1 : Hid (Below w.heap.size w w1) := hb1
  have hd : min len 10 + 1 ≤ 11 := by omega
  generalize min len 10 + 1 = d at hch1 hd
  have HC1 : Hid (Chain w1 (codeV c) (.iface 36 (.pointer (some ⟨b, 0, none⟩))) d) := hch1
  clear hb1 hch1
  go_loopg [8, 9, 10] 10 (fun g E n i wr => ∃ k b2 : Nat, k + g = 10 ∧ E = .iface 36 (.pointer (some ⟨b2, 0, none⟩)) ∧ n = .int .i64 k ∧ i = .int .i64 k ∧ Hid (Ended c w wr d k b b2))
  case atStart => exact ⟨0, b, rfl, rfl, rfl, rfl, HB1.out, HC1.out, HC1.out⟩
  case round =>
    obtain ⟨k, b2, hk, rfl, rfl, rfl, H⟩ := hrel
    clear HC1 HB1
    have HLr : Hid (Laid wr) := HG.out.keep H.out.below hpos
    have hq : (((d + k : Nat) : Int) == (d : Int) + (k : Int)) = true := by simp
    by_cases h1 : k < len2
    · by_cases h2 : k < 10
      · obtain ⟨b', off, t, rfl, hc', hsz⟩ := HS2.out.2 k h1
        have hl' : b' < w.heap.size := lt_of_cell? hc'
        have hc2 : wr.cell? ⟨b', off + k, none⟩ = some (.string t) := by rw [H.out.below.cell (p := ⟨b', off + k, none⟩) hl']; exact hc'
        clear hc'
        go_wp2_with (first
          | (go_at_call 19; refine (Cut_any _ _ _ (by decide)).mono ?_; rintro e w' ⟨rfl, rfl⟩)
          | (go_at_call 16; refine (Wrap_code _ _ c (d + k) _ (HG.out.keep H.out.below hpos) hc H.out.y).mono ?_; rintro e w' ⟨b3, rfl, hb3, _, _, hc3⟩))
        go_roundg (gk - 1)
        case measure => omega
        case rel => exact ⟨k + 1, b3, by omega, rfl, by go_num, by go_num, H.out.below.trans (hb3.mono H.out.below.size), H.out.x.keep hb3 (Nat.le_refl _), hc3⟩
      · go_wp2_with fail
        refine (Depth_chain _ _ (d + k) _ (noFault_code c) HLr.out (by omega) H.out.y).mono ?_
        rintro e w2 ⟨rfl, hb2⟩
        have HB2 : Hid (Below w.heap.size w w2) := H.out.below.trans (hb2.mono H.out.below.size)
        have HX2 : Hid (Chain w2 (codeV c) (.iface 36 (.pointer (some ⟨b, 0, none⟩))) d) := H.out.x.keep hb2 (Nat.le_refl _)
        have HY2 : Hid (Chain w2 (codeV c) (.iface 36 (.pointer (some ⟨b2, 0, none⟩))) (d + k)) := H.out.y.keep hb2 (Nat.le_refl _)
        clear hb2
        go_wp2_with fail
        refine (Depth_chain _ _ d _ (noFault_code c) (HG.out.keep HB2.out hpos) (by omega) HX2.out).mono ?_
        rintro e w3 ⟨rfl, hb3⟩
        have HB3 : Hid (Below w.heap.size w w3) := HB2.out.trans (hb3.mono HB2.out.size)
        have HY3 : Hid (Chain w3 (codeV c) (.iface 36 (.pointer (some ⟨b2, 0, none⟩))) (d + k)) := HY2.out.keep hb3 (Nat.le_refl _)
        clear hb3
        go_wp2_with fail
        refine (Code_code _ c (d + k) _ (HG.out.keep HB3.out hpos) HY3.out).mono ?_
        rintro e w4 ⟨rfl, hb4⟩
        have HB4 : Hid (Below w.heap.size w w4) := HB3.out.trans (hb4.mono HB3.out.size)
        clear hb4
        go_wp2_with fail
        refine (known_any _ (HG.out.keep HB4.out hpos)).mono ?_
        rintro e w5 ⟨rfl, hb5⟩
        have HB5 : Hid (Below w.heap.size w w5) := HB4.out.trans (hb5.mono HB4.out.size)
        clear hb5
        go_wp2
        go_ret
        exact ⟨rfl, HB5.out⟩
    · go_wp2_with fail
      refine (Depth_chain _ _ (d + k) _ (noFault_code c) HLr.out (by omega) H.out.y).mono ?_
      rintro e w2 ⟨rfl, hb2⟩
      have HB2 : Hid (Below w.heap.size w w2) := H.out.below.trans (hb2.mono H.out.below.size)
      have HX2 : Hid (Chain w2 (codeV c) (.iface 36 (.pointer (some ⟨b, 0, none⟩))) d) := H.out.x.keep hb2 (Nat.le_refl _)
      have HY2 : Hid (Chain w2 (codeV c) (.iface 36 (.pointer (some ⟨b2, 0, none⟩))) (d + k)) := H.out.y.keep hb2 (Nat.le_refl _)
      clear hb2
      go_wp2_with fail
      refine (Depth_chain _ _ d _ (noFault_code c) (HG.out.keep HB2.out hpos) (by omega) HX2.out).mono ?_
      rintro e w3 ⟨rfl, hb3⟩
      have HB3 : Hid (Below w.heap.size w w3) := HB2.out.trans (hb3.mono HB2.out.size)
      have HY3 : Hid (Chain w3 (codeV c) (.iface 36 (.pointer (some ⟨b2, 0, none⟩))) (d + k)) := HY2.out.keep hb3 (Nat.le_refl _)
      clear hb3
      go_wp2_with fail
      refine (Code_code _ c (d + k) _ (HG.out.keep HB3.out hpos) HY3.out).mono ?_
      rintro e w4 ⟨rfl, hb4⟩
      have HB4 : Hid (Below w.heap.size w w4) := HB3.out.trans (hb4.mono HB3.out.size)
      clear hb4
      go_wp2_with fail
      refine (known_any _ (HG.out.keep HB4.out hpos)).mono ?_
      rintro e w5 ⟨rfl, hb5⟩
      have HB5 : Hid (Below w.heap.size w w5) := HB4.out.trans (hb5.mono HB4.out.size)
      clear hb5
      go_wp2
      go_ret
      exact ⟨rfl, HB5.out⟩
end Go.Proofs.YtnbiejedmakaaaaDoor
