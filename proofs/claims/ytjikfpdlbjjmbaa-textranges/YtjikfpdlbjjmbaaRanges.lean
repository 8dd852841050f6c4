/-
  The law TextRanges, walked.
-/
import Derived.Test.YtjikfpdlbjjmbaaTells
namespace Go.Proofs.Ytjikfpdlbjjmbaa
open Go.RowKit Go.PlainAid

theorem lst_ext (s : ByteArray) (i j : Nat) : lst (s.extract i j) = ((lst s).take j).drop i := by
  unfold lst
  simp [ByteArray.data_extract, List.extract, List.drop_take]
theorem lst_inj {s t : ByteArray} (h : lst s = lst t) : s = t := by rw [← bs_lst s, ← bs_lst t, h]

/-- What stands in a text with t laid over it from k on. -/
theorem over_facts (s t : ByteArray) (k : Nat) (x : ByteArray) (hx : setRangeB s k t = x) (h0 : 0 < t.size) :
    x.size = max s.size (k + t.size) ∧ spanB x k ((k : Int) + t.size - 1) = t ∧ x.extract 0 (min k s.size) = s.extract 0 (min k s.size) ∧
      x.extract (k + t.size) x.size = s.extract (k + t.size) s.size ∧ (∀ i, s.size ≤ i → i < k → (lst x).getD i 0 = 0) := by
  have hl : lst x = over (ext (lst s) (k + t.size)) k (lst t) := by rw [← hx]; rfl
  have hEl : (ext (lst s) (k + t.size)).length = max s.size (k + t.size) := by rw [ext_len, len_lst]
  have hsz : x.size = max s.size (k + t.size) := by
    rw [← len_lst, hl, over_len _ _ _ (by rw [len_lst, hEl]; omega), hEl]
  have hT : ((ext (lst s) (k + t.size)).take k).length = k := by rw [List.length_take, hEl]; omega
  have hT2 : ((ext (lst s) (k + t.size)).take k ++ lst t).length = k + t.size := by rw [List.length_append, hT, len_lst]
  refine ⟨hsz, ?_, ?_, ?_, ?_⟩
  · apply lst_inj
    have e1 : spA x.size k = k := by unfold spA fs; rw [if_neg (by omega)]; omega
    have e2 : spB x.size ((k : Int) + t.size - 1) = (k : Int) + t.size - 1 := by unfold spB fs; rw [if_neg (by omega)]; omega
    unfold spanB
    rw [e1, e2, if_neg (by omega), show ((k : Int) + t.size - 1 + 1).toNat = k + t.size by omega, Int.toNat_natCast, lst_ext, hl]
    unfold over
    rw [List.take_left' hT2, List.drop_left' hT]
  · apply lst_inj
    rw [lst_ext, lst_ext, List.drop_zero, List.drop_zero, hl]
    unfold over
    rw [List.append_assoc, List.take_append_of_le_length (by rw [hT]; omega), List.take_take, Nat.min_eq_left (by omega)]
    unfold ext
    rw [List.take_append_of_le_length (by rw [len_lst]; omega)]
  · apply lst_inj
    rw [lst_ext, lst_ext, List.take_of_length_le (by rw [len_lst]; exact Nat.le_refl _), List.take_of_length_le (by rw [len_lst]; exact Nat.le_refl _), hl]
    unfold over
    rw [List.drop_left' hT2, len_lst]
    unfold ext
    rw [List.drop_append, List.drop_replicate, len_lst, show k + t.size - s.size - (k + t.size - s.size) = 0 by omega]
    simp
  · intro i h1 h2
    rw [hl]
    unfold over
    rw [List.getD_eq_getElem?_getD, List.append_assoc, List.getElem?_append_left (by rw [hT]; exact h2), List.getElem?_take, if_pos h2, ← List.getD_eq_getElem?_getD, ext_getD,
      List.getD_eq_getElem?_getD, List.getElem?_eq_none (by rw [len_lst]; exact h1)]
    rfl

set_option maxRecDepth 100000 in
set_option maxHeartbeats 4000000 in
theorem ranges_law (s t : ByteArray) (a : Int) (w : World) :
    Calls Try.prog 6 #[.string s, .string t, .int .i64 a] w fun e w' => e = .returned (.bool true) ∧ Below w.heap.size w w' := by
  have HC1 := fun w => Cut_any s 60 w (by decide)
  have HC2 := fun w => Cut_any t 30 w (by decide)
  have h1 := cut_le s 60
  have h2 := cut_le t 30
  simp only [Int.cast_ofNat_Int] at h1 h2
  generalize cutB s 60 = s1 at HC1 h1
  generalize cutB t 30 = t1 at HC2 h2
  have HW := fun w => WithinZ_any a 0 100 w (by omega) (by omega) (by omega)
  have H0 : Hid (Below w.heap.size w w) := Below.refl _ _
  go_enter Try.func6, Try.ntmps6
  go_wp2_with fail
  refine (HC1 _).mono ?_
  rintro e w0 ⟨rfl, rfl⟩
  go_wp2_with fail
  refine (HC2 _).mono ?_
  rintro e w0 ⟨rfl, rfl⟩
  go_wp2_with fail
  refine (HW _).mono ?_
  rintro e w0 ⟨rfl, z, hz1, hz2, rfl⟩
  obtain ⟨k, rfl⟩ : ∃ k : Nat, z = k := ⟨z.toNat, by omega⟩
  have HSR := fun w => SetRange_any s1 k t1 w (by unfold I64; omega) (by omega) (by omega)
  unfold setRangeR at HSR
  rw [if_neg (by omega)] at HSR
  clear HC1 HC2 HW
  by_cases h0 : t1.size = 0
  · rw [if_pos h0] at HSR
    have hq : ((t1.size : Int) == 0) = true := by simpa using h0
    go_wp2_with fail
    refine (HSR _).mono ?_
    rintro e w1 ⟨rfl, hb⟩
    have HB1 := step_below H0 hb
    clear hb
    go_wp2_with fail
    refine (known_any _).mono ?_
    rintro e w2 ⟨rfl, hb⟩
    have HB2 := step_below HB1 hb
    clear hb
    go_wp2
    go_ret
    exact ⟨rfl, HB2.out⟩
  rw [if_neg h0, if_pos (by omega), Int.toNat_natCast] at HSR
  have hq : ((t1.size : Int) == 0) = false := by simpa using h0
  obtain ⟨x, hx⟩ : ∃ x, setRangeB s1 k t1 = x := ⟨_, rfl⟩
  obtain ⟨hsz, hspan, hhead, htail, hzero⟩ := over_facts s1 t1 k x hx (by omega)
  rw [hx] at HSR
  have HRg := fun w => Range_any x k ((k : Int) + t1.size - 1) w (by unfold I64; omega) (by unfold I64; omega) (by omega)
  rw [hspan] at HRg
  have hx1 : (k : Int) + t1.size ≤ x.size := by omega
  have hx2 : (s1.size : Int) ≤ x.size := by omega
  have hx3 : x.size ≤ 130 := by omega
  have HHead : Hid (x.extract 0 (min k s1.size) = s1.extract 0 (min k s1.size)) := hhead
  have HTail : Hid (x.extract (k + t1.size) x.size = s1.extract (k + t1.size) s1.size) := htail
  have HZero : Hid (∀ i, s1.size ≤ i → i < k → (lst x).getD i 0 = 0) := hzero
  have HT0 : Hid (¬ t1.size = 0) := h0
  clear hx hsz hspan hhead htail hzero h0
  go_wp2_with fail
  refine (HSR _).mono ?_
  rintro e w1 ⟨rfl, hb⟩
  have HB1 := step_below H0 hb
  clear hb
  go_wp2_with fail
  refine (HRg _).mono ?_
  rintro e w2 ⟨rfl, hb⟩
  have HB2 := step_below HB1 hb
  clear hb HSR HRg
  by_cases hks : (s1.size : Int) < k
  · have hd : decide ((k : Int) + t1.size < s1.size) = false := by simp; omega
    have hh : x.extract 0 s1.size = s1.extract 0 s1.size := by
      have := HHead.out
      rwa [Nat.min_eq_right (by omega)] at this
    go_upto_region 13 with fail
    go_quiet (fail)
    go_wp2
    clear hh hd
    go_loopg [11] (k - s1.size) (fun q iv wr => ∃ i : Nat, i + q = k ∧ s1.size ≤ i ∧ iv = .int .i64 i ∧ Hid (Below w0.heap.size w0 wr))
    case atStart => exact ⟨s1.size, by omega, Nat.le_refl _, rfl, step_below HB2 (below_drewN _ _)⟩
    case round =>
      obtain ⟨i, hi, hsi, rfl, HB⟩ := hrel
      by_cases hlt : (i : Int) < k
      · have hix : i < x.size := by omega
        have hb0 : ((x[i]'hix).toNat : Int) = 0 := by
          have h := HZero.out i hsi (by omega)
          have e := byteAt_in x i hix
          unfold byteAt at e
          rw [h] at e
          rw [← e]; rfl
        go_wp2
        go_roundg (gk - 1)
        case measure => omega
        case rel => exact ⟨i + 1, by omega, by omega, by go_num, HB⟩
      · go_wp2_with fail
        refine (known_any _).mono ?_
        rintro e w3 ⟨rfl, hb⟩
        have HB3 := step_below HB hb
        clear hb
        go_wp2
        go_ret
        exact ⟨rfl, HB3.out⟩
  · have hh : x.extract 0 k = s1.extract 0 k := by
      have := HHead.out
      rwa [Nat.min_eq_left (by omega)] at this
    by_cases hlong : (k : Int) + t1.size < s1.size
    · have hd : decide ((k : Int) + t1.size < s1.size) = true := by simpa using hlong
      obtain ⟨m, hm⟩ : ∃ m, k + t1.size = m := ⟨_, rfl⟩
      have hmz : (k : Int) + t1.size = (m : Int) := by omega
      have ht : x.extract m x.size = s1.extract m s1.size := by rw [← hm]; exact HTail.out
      have hmx : (m : Int) ≤ x.size := by omega
      have hms : (m : Int) < s1.size := by omega
      clear hm
      go_upto_region 13 with fail
      go_quiet (fail)
      go_wp2
      clear hh hd ht
      go_loopg [11] 0 (fun q iv wr => iv = .int .i64 k ∧ Hid (Below w0.heap.size w0 wr))
      case atStart => exact ⟨rfl, step_below HB2 (below_drewN _ _)⟩
      case round =>
        obtain ⟨rfl, HB⟩ := hrel
        go_wp2_with fail
        refine (known_any _).mono ?_
        rintro e w3 ⟨rfl, hb⟩
        have HB3 := step_below HB hb
        clear hb
        go_wp2
        go_ret
        exact ⟨rfl, HB3.out⟩
    · have hd : decide ((k : Int) + t1.size < s1.size) = false := by simpa using hlong
      go_upto_region 13 with fail
      go_quiet (fail)
      go_wp2
      clear hh hd
      go_loopg [11] 0 (fun q iv wr => iv = .int .i64 k ∧ Hid (Below w0.heap.size w0 wr))
      case atStart => exact ⟨rfl, step_below HB2 (below_drewN _ _)⟩
      case round =>
        obtain ⟨rfl, HB⟩ := hrel
        go_wp2_with fail
        refine (known_any _).mono ?_
        rintro e w3 ⟨rfl, hb⟩
        have HB3 := step_below HB hb
        clear hb
        go_wp2
        go_ret
        exact ⟨rfl, HB3.out⟩
end Go.Proofs.Ytjikfpdlbjjmbaa
