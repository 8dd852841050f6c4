/-
  The law FaultTexts, walked.
-/
import Derived.Test.YtnbiejedmakaaaaDoorKnown
import Derived.Test.YtnbiejedmakaaaaDoorRefText
namespace Go.Proofs.YtnbiejedmakaaaaDoor
open Go.RowKit Go.Extern.Stop Go.Stop Go.Extern

theorem size_cutB (s : ByteArray) : (cutB s 100).size ≤ 100 := by
  unfold cutB
  split
  · rw [ByteArray.size_extract]; omega
  · omega

theorem within_any (c : Int) (w : World) : Calls Tryd.prog 22 #[.int .i64 c, .int .i64 0, .int .i64 26] w fun e w' => ∃ k : Int, e = .returned (.int .i64 k) ∧ w' = w := by
  have h : (c.tmod 27) < 27 ∧ -27 < c.tmod 27 := ⟨Int.tmod_lt_of_pos c (by decide), by have := Int.lt_tmod_of_pos c (b := 27) (by decide); omega⟩
  by_cases hn : c.tmod 27 < 0
  · go_enter Tryd.func22, Tryd.ntmps22
    go_wp2
    go_ret
    exact ⟨_, rfl, rfl⟩
  · go_enter Tryd.func22, Tryd.ntmps22
    go_wp2
    go_ret
    exact ⟨⟨_, rfl⟩, rfl⟩

set_option maxHeartbeats 1000000 in
theorem texts_any (c : Int) (s : ByteArray) (w : World) (hg : Laid w) :
    Calls Tryd.prog 5 #[.int .i64 c, .string s] w fun e w' => e = .returned (.bool true) ∧ Below w.heap.size w w' := by
  have HG : Hid (Laid w) := hg
  have hpos := lt_of_cell? hg
  clear hg
  go_enter Tryd.func5, Tryd.ntmps5
  go_wp2_with fail
  refine (Cut_any _ _ _ (by decide)).mono ?_
  rintro e w ⟨rfl, rfl⟩
  have hz := size_cutB s
  generalize cutB s 100 = t at hz ⊢
  obtain ⟨n, hn⟩ : ∃ n, shownB t = n := ⟨_, rfl⟩
  have HN : Hid (shownB t = n) := hn
  clear hn
  go_wp2_with fail
  refine (within_any _ _).mono ?_
  rintro e w ⟨k, rfl, rfl⟩
  go_wp2_with fail
  refine (Text_any c t n _ (by omega) HN.out).mono ?_
  rintro e w1 ⟨rfl, hb1⟩
  have HB1 : Hid (Below w.heap.size w w1) := hb1
  clear hb1
  go_wp2_with fail
  refine (ref_any c t n _ (by omega) HN.out).mono ?_
  rintro e w1 ⟨rfl, rfl⟩
  generalize textB c n = x
  go_wp2_with fail
  refine (Text_any k t n _ (by omega) HN.out).mono ?_
  rintro e w2 ⟨rfl, hb2⟩
  have HB2 : Hid (Below w.heap.size w w2) := HB1.out.trans (hb2.mono HB1.out.size)
  clear hb2
  go_wp2_with fail
  refine (ref_any k t n _ (by omega) HN.out).mono ?_
  rintro e w2 ⟨rfl, rfl⟩
  generalize textB k n = y
  go_wp2_with fail
  refine (known_any _ (HG.out.keep HB2.out hpos)).mono ?_
  rintro e w3 ⟨rfl, hb3⟩
  go_wp2
  go_ret
  exact ⟨rfl, HB2.out.trans (hb3.mono HB2.out.size)⟩
end Go.Proofs.YtnbiejedmakaaaaDoor
