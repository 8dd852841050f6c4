/-
  What the laws call: known, ranges, sets, adds.
-/
import Derived.Test.YtjikfpdlbjjmbaaRefSet
import Derived.Test.YtjikfpdlbjjmbaaInc
namespace Go.Proofs.Ytjikfpdlbjjmbaa
open Go.RowKit Go.PlainAid

theorem big_num : numO ⟨#[57, 50, 50, 51, 51, 55, 50, 48, 51, 54, 56, 53, 52, 55, 55, 53, 56, 48, 55]⟩ = some 9223372036854775807 := by decide +kernel

set_option maxRecDepth 100000 in
theorem known_any (w : World) : Calls Try.prog 13 #[] w fun e w' => e = .returned (.bool true) ∧ Below w.heap.size w w' := by
  have HA := fun w => SetRange_any ⟨#[97]⟩ 3 ⟨#[98]⟩ w (by unfold I64; omega) (by decide) (by decide)
  rw [show setRangeR ⟨#[97]⟩ 3 ⟨#[98]⟩ = .tuple #[.string ⟨#[97, 0, 0, 98]⟩, .int .i64 0] by kernel_rfl] at HA
  have HI := fun w => Incr_any ⟨#[57, 50, 50, 51, 51, 55, 50, 48, 51, 54, 56, 53, 52, 55, 55, 53, 56, 48, 55]⟩ 1 w (by decide) (by unfold Int64; omega)
  rw [show incrR ⟨#[57, 50, 50, 51, 51, 55, 50, 48, 51, 54, 56, 53, 52, 55, 55, 53, 56, 48, 55]⟩ 1 = .tuple #[.string ⟨#[]⟩, .int .i64 0, .int .i64 6] by unfold incrR; rw [big_num]; rfl] at HI
  have HRg := fun w => Range_any ⟨#[104, 101, 108, 108, 111]⟩ (-3) (-1) w (by unfold I64; omega) (by unfold I64; omega) (by decide)
  rw [show spanB ⟨#[104, 101, 108, 108, 111]⟩ (-3) (-1) = ⟨#[108, 108, 111]⟩ by decide +kernel] at HRg
  have HB := fun w => Bit_any ⟨#[97]⟩ 1 w (by unfold I64; omega) (by decide)
  rw [show bitB ⟨#[97]⟩ 1 = 1 by decide +kernel] at HB
  have H0 : Hid (Below w.heap.size w w) := Below.refl _ _
  go_enter Try.func13, Try.ntmps13
  go_wp2_with fail
  refine (HA _).mono ?_
  rintro e w1 ⟨rfl, hb⟩
  have H1 := step_below H0 hb
  clear hb
  go_wp2_with fail
  refine (HI _).mono ?_
  rintro e w2 ⟨rfl, hb⟩
  have H2 := step_below H1 hb
  clear hb
  go_wp2_with fail
  refine (HRg _).mono ?_
  rintro e w3 ⟨rfl, hb⟩
  have H3 := step_below H2 hb
  clear hb
  go_wp2_with fail
  refine (HB _).mono ?_
  rintro e w4 ⟨rfl, hb⟩
  have H4 := step_below H3 hb
  clear hb
  go_wp2
  go_ret
  exact ⟨rfl, H4.out⟩

theorem ranges_any (s : ByteArray) (a b : Int) (w : World) (ha : I64 a) (hb : I64 b) (hs : s.size ≤ 140737488300000) :
    Calls Try.prog 9 #[.string s, .int .i64 a, .int .i64 b] w fun e w' => e = .returned (.bool true) ∧ Below w.heap.size w w' := by
  have H1 := fun w => Range_any s a b w ha hb (by omega)
  have H2 := fun w => refRange_any s a b w ha hb (by omega)
  have H3 := fun w => Count_any s a b w ha hb (by omega)
  have H4 := fun w => refCount_any s a b w ha hb (by omega)
  generalize popL (lst (spanB s a b)) = n at H3 H4
  generalize spanB s a b = t at H1 H2
  have H0 : Hid (Below w.heap.size w w) := Below.refl _ _
  clear ha hb hs
  go_enter Try.func9, Try.ntmps9
  go_wp2_with fail
  refine (H1 _).mono ?_
  rintro e w1 ⟨rfl, hb⟩
  have HB := step_below H0 hb
  clear hb
  go_wp2_with fail
  refine (H2 _).mono ?_
  rintro e w1 ⟨rfl, rfl⟩
  go_wp2_with fail
  refine (H3 _).mono ?_
  rintro e w1 ⟨rfl, rfl⟩
  go_wp2_with fail
  refine (H4 _).mono ?_
  rintro e w1 ⟨rfl, rfl⟩
  go_wp2
  go_ret
  exact ⟨rfl, HB.out⟩

theorem setRangeR_parts (s : ByteArray) (i : Int) (t : ByteArray) : ∃ x c, setRangeR s i t = .tuple #[.string x, .int .i64 c] := by
  unfold setRangeR
  split
  · exact ⟨_, _, rfl⟩
  · split
    · exact ⟨_, _, rfl⟩
    · split
      · exact ⟨_, _, rfl⟩
      · exact ⟨_, _, rfl⟩
theorem setBitR_parts (s : ByteArray) (i b : Int) : ∃ x v c, setBitR s i b = .tuple #[.string x, .int .i64 v, .int .i64 c] := by
  unfold setBitR
  split
  · exact ⟨_, _, _, rfl⟩
  · exact ⟨_, _, _, rfl⟩
theorem incrR_parts (s : ByteArray) (d : Int) : ∃ x v c, incrR s d = .tuple #[.string x, .int .i64 v, .int .i64 c] := by
  unfold incrR
  split
  · exact ⟨_, _, _, rfl⟩
  · split
    · exact ⟨_, _, _, rfl⟩
    · exact ⟨_, _, _, rfl⟩

set_option maxRecDepth 100000 in
set_option maxHeartbeats 1000000 in
theorem sets_any (s : ByteArray) (i : Int) (t : ByteArray) (b : Int) (w : World) (hi : I64 i) (hs : s.size ≤ 140737488300000) (ht : t.size ≤ 140737488300000) :
    Calls Try.prog 10 #[.string s, .int .i64 i, .string t, .int .i64 b] w fun e w' => e = .returned (.bool true) ∧ Below w.heap.size w w' := by
  have H1 := fun w => SetRange_any s i t w hi (by omega) (by omega)
  have H2 := fun w => refSetRange_any s i t w hi hs ht
  have H3 := fun w => SetBit_any s i b w (by omega)
  have H4 := fun w => refSetBit_any s i b w hs
  have H5 := fun w => Bit_any s i w hi (by unfold maxLen; omega)
  have H6 := fun w => refBit_any s i w hi (by unfold maxLen; omega)
  obtain ⟨x, c, hx⟩ := setRangeR_parts s i t
  obtain ⟨y, v, f, hy⟩ := setBitR_parts s i b
  rw [hx] at H1 H2
  rw [hy] at H3 H4
  generalize bitB s i = V at H5 H6
  have H0 : Hid (Below w.heap.size w w) := Below.refl _ _
  clear hi hs ht hx hy
  go_enter Try.func10, Try.ntmps10
  go_wp2_with fail
  refine (H1 _).mono ?_
  rintro e w1 ⟨rfl, hb⟩
  have HB1 := step_below H0 hb
  clear hb
  go_wp2_with fail
  refine (H2 _).mono ?_
  rintro e w2 ⟨rfl, hb⟩
  have HB2 := step_below HB1 hb
  clear hb
  go_wp2_with fail
  refine (H3 _).mono ?_
  rintro e w3 ⟨rfl, hb⟩
  have HB3 := step_below HB2 hb
  clear hb
  go_wp2_with fail
  refine (H4 _).mono ?_
  rintro e w4 ⟨rfl, hb⟩
  have HB4 := step_below HB3 hb
  clear hb
  go_wp2_with fail
  refine (H5 _).mono ?_
  rintro e w5 ⟨rfl, hb⟩
  have HB5 := step_below HB4 hb
  clear hb
  go_wp2_with fail
  refine (H6 _).mono ?_
  rintro e w6 ⟨rfl, rfl⟩
  go_wp2
  go_ret
  exact ⟨rfl, HB5.out⟩

set_option maxRecDepth 100000 in
theorem adds_any (s : ByteArray) (d : Int) (w : World) (hs : s.size ≤ maxLen) (hd : Int64 d) :
    Calls Try.prog 11 #[.string s, .int .i64 d] w fun e w' => e = .returned (.bool true) ∧ Below w.heap.size w w' := by
  have H1 := fun w => Incr_any s d w hs hd
  have H2 := fun w => refIncr_any s d w hs hd
  obtain ⟨y, v, f, hy⟩ := incrR_parts s d
  rw [hy] at H1 H2
  have H0 : Hid (Below w.heap.size w w) := Below.refl _ _
  clear hs hd hy
  go_enter Try.func11, Try.ntmps11
  go_wp2_with fail
  refine (H1 _).mono ?_
  rintro e w1 ⟨rfl, hb⟩
  have HB1 := step_below H0 hb
  clear hb
  go_wp2_with fail
  refine (H2 _).mono ?_
  rintro e w2 ⟨rfl, rfl⟩
  go_wp2
  go_ret
  exact ⟨rfl, HB1.out⟩
end Go.Proofs.Ytjikfpdlbjjmbaa
