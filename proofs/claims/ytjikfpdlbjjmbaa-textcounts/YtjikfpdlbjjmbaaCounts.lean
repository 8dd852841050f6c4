/-
  The law TextCounts, walked.
-/
import Derived.Test.YtjikfpdlbjjmbaaTells
namespace Go.Proofs.Ytjikfpdlbjjmbaa
open Go.RowKit Go.PlainAid

theorem lst_extract (s : ByteArray) (i j : Nat) : lst (s.extract i j) = ((lst s).take j).drop i := by
  unfold lst
  simp [ByteArray.data_extract, List.extract, List.drop_take]

theorem span_all (s : ByteArray) : lst (spanB s 0 (-1)) = lst s := by
  unfold spanB
  by_cases h : s.size = 0
  · rw [if_pos (by unfold spB spA fs; simp; omega)]
    rw [emp_of s h]
  · rw [if_neg (by unfold spB spA fs; simp; omega)]
    have e1 : (spA s.size 0).toNat = 0 := by unfold spA fs; simp
    have e2 : (spB s.size (-1) + 1).toNat = s.size := by unfold spB fs; simp; omega
    rw [e1, e2, lst_extract, List.drop_zero, List.take_of_length_le (by rw [len_lst]; exact Nat.le_refl _)]
theorem span_in (s : ByteArray) (i j : Nat) (h : i ≤ j) (hj : j < s.size) : lst (spanB s i j) = ((lst s).take (j + 1)).drop i := by
  have e1 : spA s.size i = i := by unfold spA fs; rw [if_neg (by omega)]; omega
  have e2 : spB s.size j = j := by unfold spB fs; rw [if_neg (by omega)]; omega
  unfold spanB
  rw [e1, e2, if_neg (by omega), lst_extract]; rfl
theorem span_tail (s : ByteArray) (i : Nat) (hi : i ≤ s.size) : lst (spanB s i (-1)) = (lst s).drop i := by
  have e1 : spA s.size i = i := by unfold spA fs; rw [if_neg (by omega)]; omega
  have e2 : spB s.size (-1) = (s.size : Int) - 1 := by unfold spB fs; simp; omega
  unfold spanB
  rw [e1, e2]
  split
  · rw [List.drop_of_length_le (by rw [len_lst]; omega)]
  · rw [show ((s.size : Int) - 1 + 1).toNat = s.size by omega, lst_extract, List.take_of_length_le (by rw [len_lst]; exact Nat.le_refl _), Int.toNat_natCast]

theorem pop_parts (l : List UInt8) (k : Nat) (h : k < l.length) : popL l = popL ((l.take (k + 1)).drop k) + popL (l.drop (k + 1)) + popL (l.take k) ∧ popL ((l.take (k + 1)).drop k) ≤ 8 := by
  have e : (l.take (k + 1)).drop k = [l[k]] := by
    rw [List.take_add_one, List.drop_append, List.drop_of_length_le (by simp; omega), List.getElem?_eq_getElem h, List.length_take, Nat.min_eq_left (by omega), Nat.sub_self]
    rfl
  constructor
  · conv => lhs; rw [← List.take_append_drop (k + 1) l, popL_append]
    have : l.take (k + 1) = l.take k ++ (l.take (k + 1)).drop k := by
      have := List.take_append_drop k (l.take (k + 1))
      rw [List.take_take, Nat.min_eq_left (by omega)] at this
      exact this.symm
    conv => lhs; rw [this, popL_append]
    omega
  · rw [e]
    have := popL_le [l[k]]
    simpa using this

set_option maxRecDepth 100000 in
set_option maxHeartbeats 4000000 in
theorem counts_any (s : ByteArray) (at_ : Int) (w : World) :
    Calls Try.prog 7 #[.string s, .int .i64 at_] w fun e w' => e = .returned (.bool true) ∧ Below w.heap.size w w' := by
  have HC1 := fun w => Cut_any s 100 w (by decide)
  have h1 := cut_le s 100
  simp only [Int.cast_ofNat_Int] at h1
  generalize cutB s 100 = s1 at HC1 h1
  have HAll := fun w => Count_any s1 0 (-1) w (by unfold I64; omega) (by unfold I64; omega) (by omega)
  have hle8 : popL (lst s1) ≤ 8 * s1.size := by have := popL_le (lst s1); rw [len_lst] at this; exact this
  rw [span_all] at HAll
  by_cases h0 : s1.size = 0
  · rw [show popL (lst s1) = 0 by omega] at HAll
    have hq : ((s1.size : Int) == 0) = true := by simpa using h0
    clear hle8
    go_enter Try.func7, Try.ntmps7
    go_wp2_with fail
    refine (HC1 _).mono ?_
    rintro e w0 ⟨rfl, rfl⟩
    go_wp2_with fail
    refine (HAll _).mono ?_
    rintro e w0 ⟨rfl, rfl⟩
    go_wp2_with fail
    refine (known_any _).mono ?_
    rintro e w1 ⟨rfl, hb⟩
    have HB : Hid (Below w0.heap.size w0 w1) := hb
    clear hb
    go_wp2
    go_ret
    exact ⟨rfl, HB.out⟩
  · have hq : ((s1.size : Int) == 0) = false := by simpa using h0
    have HW := fun w => WithinZ_any at_ 0 ((s1.size : Int) - 1) w (by omega) (by omega) (by omega)
    go_enter Try.func7, Try.ntmps7
    go_wp2_with fail
    refine (HC1 _).mono ?_
    rintro e w0 ⟨rfl, rfl⟩
    go_wp2_with fail
    refine (HW _).mono ?_
    rintro e w0 ⟨rfl, z, hz1, hz2, rfl⟩
    obtain ⟨k, rfl⟩ : ∃ k : Nat, z = k := ⟨z.toNat, by omega⟩
    have hk : k < s1.size := by omega
    have HCk := fun w => Count_any s1 k k w (by unfold I64; omega) (by unfold I64; omega) (by omega)
    have HCt := fun w => Count_any s1 ((k : Int) + 1) (-1) w (by unfold I64; omega) (by unfold I64; omega) (by omega)
    have hp := pop_parts (lst s1) k (by rw [len_lst]; exact hk)
    have hdz : s1.size ≤ k + 1 → popL ((lst s1).drop (k + 1)) = 0 := fun h => by rw [List.drop_of_length_le (by rw [len_lst]; exact h)]; rfl
    rw [span_in s1 k k (Nat.le_refl _) hk] at HCk
    have hkz : ((k : Int) + 1) = ((k + 1 : Nat) : Int) := by omega
    rw [hkz, span_tail s1 (k + 1) (by omega), ← hkz] at HCt
    have HCh : Hid (0 < k → ∀ w, Calls Try.prog 18 #[.string s1, .int .i64 0, .int .i64 ((k : Int) - 1)] w fun e w' => e = .returned (.int .i64 (popL ((lst s1).take k) : Nat)) ∧ w' = w) := fun h0 w => by
      have := Count_any s1 0 ((k : Int) - 1) w (by unfold I64; omega) (by unfold I64; omega) (by omega)
      have e := span_in s1 0 (k - 1) (Nat.zero_le _) (by omega)
      rw [show (((k - 1 : Nat)) : Int) = (k : Int) - 1 by omega, show k - 1 + 1 = k by omega] at e
      rw [show ((0 : Nat) : Int) = 0 from rfl, List.drop_zero] at e
      rw [e] at this
      exact this
    have hk0 : k = 0 → popL ((lst s1).take k) = 0 := fun h => by rw [h]; rfl
    generalize popL ((lst s1).drop (k + 1)) = T at HCt hp hdz
    generalize popL ((lst s1).take k) = D at HCh hp hk0
    generalize popL (((lst s1).take (k + 1)).drop k) = O at HCk hp
    generalize popL (lst s1) = A at HAll hp hle8
    obtain ⟨hpA, hp8⟩ := hp
    have hA9 : A ≤ 800 := by omega
    have hT9 : T ≤ 800 := by omega
    have hD9 : D ≤ 800 := by omega
    have HPA : Hid (A = O + T + D) := hpA
    have HK0 : Hid (k = 0 → D = 0) := hk0
    have HDZ : Hid (s1.size ≤ k + 1 → T = 0) := hdz
    have hAs : (A : Int) ≤ 8 * s1.size := by omega
    clear hkz hpA hk0 hdz hle8
    go_wp2_with fail
    refine (HAll _).mono ?_
    rintro e w0 ⟨rfl, rfl⟩
    go_wp2_with fail
    refine (HCk _).mono ?_
    rintro e w0 ⟨rfl, rfl⟩
    go_wp2_with fail
    refine (HCt _).mono ?_
    rintro e w0 ⟨rfl, rfl⟩
    by_cases hkp : (k : Int) > 0
    · replace HCh := HCh.out (by omega)
      go_wp2_with fail
      refine (HCh _).mono ?_
      rintro e w0 ⟨rfl, rfl⟩
      by_cases hlast : (s1.size : Int) ≤ (k : Int) + 1
      · have hq2 : ((A : Int) == O + D) = true := by
          have := HPA.out; have := HDZ.out (by omega); simp; omega
        clear HCh HCt HCk HAll HC1 HW
        go_wp2_with fail
        refine (known_any _).mono ?_
        rintro e w1 ⟨rfl, hb⟩
        have HB : Hid (Below w0.heap.size w0 w1) := hb
        clear hb
        go_wp2
        go_ret
        exact ⟨rfl, HB.out⟩
      · have hq2 : ((A : Int) == O + T + D) = true := by have := HPA.out; simp; omega
        clear HCh HCt HCk HAll HC1 HW
        go_wp2_with fail
        refine (known_any _).mono ?_
        rintro e w1 ⟨rfl, hb⟩
        have HB : Hid (Below w0.heap.size w0 w1) := hb
        clear hb
        go_wp2
        go_ret
        exact ⟨rfl, HB.out⟩
    · by_cases hlast : (s1.size : Int) ≤ (k : Int) + 1
      · have hAO : A = O := by have := HPA.out; have := HDZ.out (by omega); have := HK0.out (by omega); omega
        subst hAO
        clear HCh HCt HCk HAll HC1 HW
        go_wp2_with fail
        refine (known_any _).mono ?_
        rintro e w1 ⟨rfl, hb⟩
        have HB : Hid (Below w0.heap.size w0 w1) := hb
        clear hb
        go_wp2
        go_ret
        exact ⟨rfl, HB.out⟩
      · have hq2 : ((A : Int) == O + T) = true := by have := HPA.out; have := HK0.out (by omega); simp; omega
        clear HCh HCt HCk HAll HC1 HW
        go_wp2_with fail
        refine (known_any _).mono ?_
        rintro e w1 ⟨rfl, hb⟩
        have HB : Hid (Below w0.heap.size w0 w1) := hb
        clear hb
        go_wp2
        go_ret
        exact ⟨rfl, HB.out⟩
end Go.Proofs.Ytjikfpdlbjjmbaa
