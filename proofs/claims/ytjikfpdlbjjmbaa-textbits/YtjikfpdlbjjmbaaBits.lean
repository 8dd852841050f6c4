/-
  The law TextBits, walked.
-/
import Derived.Test.YtjikfpdlbjjmbaaTells
namespace Go.Proofs.Ytjikfpdlbjjmbaa
open Go.RowKit Go.PlainAid

theorem popL_set (l : List UInt8) (q : Nat) (b : UInt8) (h : q < l.length) : popL (l.set q b) + pop (l.getD q 0).toNat = popL l + pop b.toNat := by
  induction l generalizing q with
  | nil => simp at h
  | cons a l ih =>
    cases q with
    | zero => simp [popL]; omega
    | succ q =>
      have := ih q (by simpa using h)
      rw [List.set_cons_succ, popL_cons, popL_cons, List.getD_cons_succ]
      omega
theorem ofNat_toNat (n : Nat) (h : n < 256) : (UInt8.ofNat n).toNat = n := by rw [UInt8.toNat_ofNat']; omega

theorem setBit_lst (s : ByteArray) (k v : Nat) : lst (setBitB s k v) = (ext (lst s) (k / 8 + 1)).set (k / 8) (UInt8.ofNat (setN (byteAt s (k / 8)) (7 - k % 8) v)) := rfl
theorem setBit_size (s : ByteArray) (k v : Nat) : (setBitB s k v).size = max s.size (k / 8 + 1) := by
  rw [← len_lst, setBit_lst, List.length_set, ext_len, len_lst]
theorem setBit_byte (s : ByteArray) (k v i : Nat) : byteAt (setBitB s k v) i = if i = k / 8 then setN (byteAt s (k / 8)) (7 - k % 8) v else byteAt s i := by
  unfold byteAt
  rw [setBit_lst, List.getD_eq_getElem?_getD]
  by_cases h : i = k / 8
  · rw [if_pos h, h, List.getElem?_set_self (by rw [ext_len]; omega), Option.getD_some]
    exact ofNat_toNat _ (setN_lt _ _ _ (byteAt_lt _ _) (by omega))
  · rw [if_neg h, List.getElem?_set_ne (fun e => h e.symm), ← List.getD_eq_getElem?_getD, ext_getD]
theorem setBit_bit (s : ByteArray) (k v : Nat) (hv : v < 2) : bitB (setBitB s k v) k = v := by
  rw [bitB_nat, setBit_byte, if_pos rfl]
  exact bit_set _ _ _ (byteAt_lt _ _) (by omega) hv
theorem setBit_other (s : ByteArray) (k m v : Nat) (h : m ≠ k) : bitB (setBitB s k v) m = bitB s m := by
  rw [bitB_nat, bitB_nat, setBit_byte]
  split
  · rename_i e
    rw [bit_other _ _ _ _ (byteAt_lt _ _) (by omega) (by omega) (by omega), e]
  · rfl
theorem setBit_back (s : ByteArray) (k v : Nat) (hv : v < 2) : lst (setBitB (setBitB s k v) k (bitB s k)) = ext (lst s) (k / 8 + 1) := by
  rw [setBit_lst, setBit_byte, if_pos rfl, bitB_nat, set_back _ _ _ (byteAt_lt _ _) (by omega) hv]
  rw [ext_self _ _ (by rw [len_lst, setBit_size]; omega), setBit_lst, List.set_set]
  apply List.ext_getElem?
  intro i
  by_cases h : i = k / 8
  · subst h
    rw [List.getElem?_set_self (by rw [ext_len]; omega), List.getElem?_eq_getElem (by rw [ext_len]; omega)]
    congr 1
    have := ext_getD (lst s) (k / 8 + 1) (k / 8)
    rw [List.getD_eq_getElem?_getD, List.getElem?_eq_getElem (by rw [ext_len]; omega), Option.getD_some] at this
    rw [this]
    unfold byteAt
    simp
  · rw [List.getElem?_set_ne (fun e => h e.symm)]
theorem setBit_pop (s : ByteArray) (k v : Nat) (hv : v < 2) : popL (lst (setBitB s k v)) + bitB s k = popL (lst s) + v := by
  have h1 := popL_set (ext (lst s) (k / 8 + 1)) (k / 8) (UInt8.ofNat (setN (byteAt s (k / 8)) (7 - k % 8) v)) (by rw [ext_len]; omega)
  rw [← setBit_lst, popL_ext, ext_getD, ofNat_toNat _ (setN_lt _ _ _ (byteAt_lt _ _) (by omega))] at h1
  have h2 := pop_set (byteAt s (k / 8)) (7 - k % 8) v (byteAt_lt _ _) (by omega) hv
  rw [bitB_nat]
  have : ((lst s).getD (k / 8) 0).toNat = byteAt s (k / 8) := rfl
  rw [this] at h1
  omega

theorem span_whole (s : ByteArray) : lst (spanB s 0 (-1)) = lst s := by
  unfold spanB
  by_cases h : s.size = 0
  · rw [if_pos (by unfold spB spA fs; simp; omega)]
    rw [emp_of s h]
  · rw [if_neg (by unfold spB spA fs; simp; omega)]
    have e1 : (spA s.size 0).toNat = 0 := by unfold spA fs; simp
    have e2 : (spB s.size (-1) + 1).toNat = s.size := by unfold spB fs; simp; omega
    rw [e1, e2]
    simp
theorem setBitR_in (s : ByteArray) (k v : Nat) (hk : k < 524288) (hv : v < 2) : setBitR s k v = .tuple #[.string (setBitB s k v), .int .i64 (bitB s k : Nat), .int .i64 0] := by
  unfold setBitR
  rw [if_pos (by omega)]; rfl

set_option maxRecDepth 100000 in
set_option maxHeartbeats 4000000 in
theorem bits_any (s : ByteArray) (i j b : Int) (w : World) :
    Calls Try.prog 5 #[.string s, .int .i64 i, .int .i64 j, .int .i64 b] w fun e w' => e = .returned (.bool true) ∧ Below w.heap.size w w' := by
  have HC1 := fun w => Cut_any s 40 w (by decide)
  have h1 := cut_le s 40
  simp only [Int.cast_ofNat_Int] at h1
  generalize cutB s 40 = s1 at HC1 h1
  have HW1 := fun w => WithinZ_any i 0 400 w (by omega) (by omega) (by omega)
  have HW2 := fun w => WithinZ_any j 0 400 w (by omega) (by omega) (by omega)
  have HW3 := fun w => WithinZ_any b 0 1 w (by omega) (by omega) (by omega)
  have HB0 : Hid (Below w.heap.size w w) := Below.refl _ _
  go_enter Try.func5, Try.ntmps5
  go_wp2_with fail
  refine (HC1 _).mono ?_
  rintro e w0 ⟨rfl, rfl⟩
  go_wp2_with fail
  refine (HW1 _).mono ?_
  rintro e w0 ⟨rfl, z1, hz1, hz1', rfl⟩
  go_wp2_with fail
  refine (HW2 _).mono ?_
  rintro e w0 ⟨rfl, z2, hz2, hz2', rfl⟩
  go_wp2_with fail
  refine (HW3 _).mono ?_
  rintro e w0 ⟨rfl, z3, hz3, hz3', rfl⟩
  obtain ⟨k, rfl⟩ : ∃ k : Nat, z1 = k := ⟨z1.toNat, by omega⟩
  obtain ⟨m, rfl⟩ : ∃ m : Nat, z2 = m := ⟨z2.toNat, by omega⟩
  obtain ⟨v, rfl⟩ : ∃ v : Nat, z3 = v := ⟨z3.toNat, by omega⟩
  have hv : v < 2 := by omega
  clear HC1 HW1 HW2 HW3
  have hwas := bitB_le s1 k
  have HS := fun w => SetBit_any s1 k v w (by omega)
  rw [setBitR_in s1 k v (by omega) hv] at HS
  have HBs := fun w => Bit_any s1 k w (by unfold I64; omega) (by unfold maxLen; omega)
  have hts := setBit_size s1 k v
  have HBt := fun w => Bit_any (setBitB s1 k v) k w (by unfold I64; omega) (by unfold maxLen; omega)
  rw [setBit_bit s1 k v hv] at HBt
  have HMt := fun w => Bit_any (setBitB s1 k v) m w (by unfold I64; omega) (by unfold maxLen; omega)
  have HMs := fun w => Bit_any s1 m w (by unfold I64; omega) (by unfold maxLen; omega)
  have HMe : Hid (m ≠ k → bitB (setBitB s1 k v) m = bitB s1 m) := setBit_other s1 k m v
  have HU := fun w => SetBit_any (setBitB s1 k v) k (bitB s1 k : Nat) w (by omega)
  rw [setBitR_in _ k (bitB s1 k) (by omega) (by omega), setBit_bit s1 k v hv] at HU
  have hus : (setBitB (setBitB s1 k v) k (bitB s1 k)).size = (setBitB s1 k v).size := by rw [setBit_size, hts]; omega
  have hue : (setBitB (setBitB s1 k v) k (bitB s1 k)).extract 0 s1.size = s1 := by
    have e : ∀ x : ByteArray, lst (x.extract 0 s1.size) = (lst x).take s1.size := fun x => by
      unfold lst; simp [ByteArray.data_extract, List.extract]
    have := e (setBitB (setBitB s1 k v) k (bitB s1 k))
    rw [setBit_back s1 k v hv, ext, List.take_append_of_le_length (by rw [len_lst]; exact Nat.le_refl _), List.take_of_length_le (by rw [len_lst]; exact Nat.le_refl _)] at this
    rw [← bs_lst (ByteArray.extract _ _ _), this, bs_lst]
  have hpop := setBit_pop s1 k v hv
  have HCt := fun w => Count_any (setBitB s1 k v) 0 (-1) w (by unfold I64; omega) (by unfold I64; omega) (by omega)
  have HCs := fun w => Count_any s1 0 (-1) w (by unfold I64; omega) (by unfold I64; omega) (by omega)
  rw [span_whole] at HCt HCs
  have hp1 : popL (lst s1) ≤ 400 := by have := popL_le (lst s1); rw [len_lst] at this; omega
  generalize setBitB (setBitB s1 k v) k (bitB s1 k) = u at HU hus hue
  generalize setBitB s1 k v = t at *
  generalize bitB s1 k = was at *
  generalize popL (lst t) = A at *
  generalize popL (lst s1) = C at *
  have hst : (s1.size : Int) ≤ t.size := by omega
  have hsu : s1.size ≤ u.size := by omega
  have hut : ((u.size : Int) == t.size) = true := by simp; omega
  have hAC : (A : Int) - C = (v : Int) - was := by omega
  have ht60 : t.size ≤ 60 := by omega
  have hA4 : A ≤ 402 := by omega
  have hu60 : u.size ≤ 60 := by omega
  clear hts hus hpop hv
  go_wp2_with fail
  refine (HS _).mono ?_
  rintro e w1 ⟨rfl, hb⟩
  have HB1 := step_below HB0 hb
  clear hb
  go_wp2_with fail
  refine (HBs _).mono ?_
  rintro e w2 ⟨rfl, hb⟩
  have HB2 := step_below HB1 hb
  clear hb
  go_wp2_with fail
  refine (HBt _).mono ?_
  rintro e w3 ⟨rfl, hb⟩
  have HB3 := step_below HB2 hb
  clear hb
  by_cases hmk : m = k
  · have hq : ((m : Int) != (k : Int)) = false := by simp [hmk]
    subst hmk
    have HB7 : Hid (Below w0.heap.size w0 w3) := HB3
    clear HMe HMt HMs
    go_wp2_with fail
    refine (HU _).mono ?_
    rintro e w9 ⟨rfl, hb⟩
    have HB9 := step_below HB7 hb
    clear hb
    go_wp2_with fail
    refine (HCt _).mono ?_
    rintro e w9 ⟨rfl, rfl⟩
    go_wp2_with fail
    refine (HCs _).mono ?_
    rintro e w9 ⟨rfl, rfl⟩
    go_wp2_with fail
    refine (known_any _).mono ?_
    rintro e w10 ⟨rfl, hb⟩
    have HB10 := step_below HB9 hb
    clear hb
    go_wp2
    go_ret
    exact ⟨rfl, HB10.out⟩
  · have hq : ((m : Int) != (k : Int)) = true := by simp; omega
    rw [HMe.out hmk] at HMt
    generalize bitB s1 m = V at HMt HMs
    clear HMe
    go_wp2_with fail
    refine (HMt _).mono ?_
    rintro e w4 ⟨rfl, hb⟩
    have HB4 := step_below HB3 hb
    clear hb
    go_wp2_with fail
    refine (HMs _).mono ?_
    rintro e w5 ⟨rfl, hb⟩
    have HB5 := step_below HB4 hb
    clear hb
    have HB7 : Hid (Below w0.heap.size w0 w5) := HB5
    go_wp2_with fail
    refine (HU _).mono ?_
    rintro e w9 ⟨rfl, hb⟩
    have HB9 := step_below HB7 hb
    clear hb
    go_wp2_with fail
    refine (HCt _).mono ?_
    rintro e w9 ⟨rfl, rfl⟩
    go_wp2_with fail
    refine (HCs _).mono ?_
    rintro e w9 ⟨rfl, rfl⟩
    go_wp2_with fail
    refine (known_any _).mono ?_
    rintro e w10 ⟨rfl, hb⟩
    have HB10 := step_below HB9 hb
    clear hb
    go_wp2
    go_ret
    exact ⟨rfl, HB10.out⟩
end Go.Proofs.Ytjikfpdlbjjmbaa
