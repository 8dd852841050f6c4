/-
  The document's own SetRange and SetBit.
-/
import Derived.Test.YtjikfpdlbjjmbaaRow
namespace Go.Proofs.Ytjikfpdlbjjmbaa
open Go.RowKit Go.PlainAid

theorem over_set (l r : List UInt8) (o i : Nat) (b : UInt8) (h : o + r.length ≤ l.length) (hi : i < r.length) (hb : r[i]? = some b) : (over l o (r.take i)).set (o + i) b = over l o (r.take (i + 1)) := by
  unfold over
  have h1 : (l.take o ++ r.take i).length = o + i := by simp; omega
  rw [List.set_append_right _ _ (by omega), h1, Nat.sub_self, List.length_take, Nat.min_eq_left (by omega), List.length_take, Nat.min_eq_left (by omega), List.take_add_one, hb]
  rw [List.drop_eq_getElem_cons (l := l) (i := o + i) (by omega), List.set_cons_zero]
  simp [Nat.add_assoc]
theorem over_nil (l : List UInt8) (o : Nat) : over l o [] = l := by unfold over; simp

set_option maxHeartbeats 1000000 in
theorem refSetRange_any (s : ByteArray) (i : Int) (t : ByteArray) (w : World) (hi : I64 i) (hs : s.size ≤ 140737488300000) (ht : t.size ≤ 140737488300000) :
    Calls Try.prog 25 #[.string s, .int .i64 i, .string t] w fun e w' => e = .returned (setRangeR s i t) ∧ Below w.heap.size w w' := by
  unfold I64 at hi
  unfold setRangeR
  by_cases h : i < 0
  · rw [if_pos h]
    go_enter Try.func25, Try.ntmps25
    go_wp2
    go_ret2
    exact ⟨rfl, Below.refl _ _⟩
  rw [if_neg h]
  by_cases h0 : t.size = 0
  · rw [if_pos h0, emp_of t h0]
    go_enter Try.func25, Try.ntmps25
    go_wp2
    go_ret2
    exact ⟨rfl, Below.refl _ _⟩
  rw [if_neg h0]
  have hq0 : ((t.size : Int) == 0) = false := by simpa using h0
  by_cases h2 : i + t.size ≤ 65536
  · rw [if_pos h2]
    obtain ⟨k, hk⟩ : ∃ k : Nat, i = k := ⟨i.toNat, by omega⟩
    rw [show i.toNat = k by omega]
    obtain ⟨n, hn⟩ : ∃ n, k + t.size = n := ⟨_, rfl⟩
    obtain ⟨m, hm⟩ : ∃ m, max s.size n = m := ⟨_, rfl⟩
    have hnz : i + t.size = (n : Int) := by omega
    have HA := fun w => long_any s n m w (by omega) hs hm
    have HLen : Hid (k + (lst t).length ≤ (ext (lst s) n).length) := by
      show _ ≤ _
      rw [ext_len, len_lst, len_lst, hm]; omega
    have HSB : Hid (bs (over (ext (lst s) n) k (lst t)) = setRangeB s k t) := by
      show _ = _
      unfold setRangeB; rw [hn]
    generalize ext (lst s) n = L at HA HLen HSB
    have HTL : Hid ((lst t).length = t.size) := len_lst t
    have hkm : k + t.size ≤ m := by omega
    have hkm' : (k : Int) + t.size ≤ m := by omega
    have hk6 : k + t.size ≤ 65536 := by omega
    generalize setRangeB s k t = S at HSB ⊢
    subst hk
    clear hm hn
    go_enter Try.func25, Try.ntmps25
    go_wp2_with fail
    refine (HA _).mono ?_
    rintro e w1 ⟨hb1, g, c, rfl, hg1, hR1⟩
    have HB1 : Hid (Below w.heap.size w w1) := hb1
    have HR1 : Hid (Row w1 w.heap.size g m c L) := hR1
    clear hb1 hg1 hR1 HA
    go_wp2
    go_loopg [9] t.size (fun q iv wr => ∃ j : Nat, j + q = t.size ∧ iv = .int .i64 j ∧ Hid (Row wr w.heap.size g m c (over L k ((lst t).take j))) ∧ Hid (Below w.heap.size w wr))
    case atStart => exact ⟨0, by omega, rfl, by rw [List.take_zero, over_nil]; exact HR1, HB1⟩
    case round =>
      obtain ⟨j, hj, rfl, HR, HB⟩ := hrel
      by_cases hlt : j < t.size
      · have hc := HR.out.cell (k + j) (by omega)
        have hf := HR.out.free (k + j) (Nat.lt_of_lt_of_le (by omega) HR.out.fit)
        generalize ((over L k ((lst t).take j)).getD (k + j) 0).toNat = v at hc
        have hget : (lst t)[j]? = some (t[j]'hlt) := by
          rw [List.getElem?_eq_getElem (by rw [HTL.out]; exact hlt)]; rfl
        have HN : Hid (Row (wr.setCell ⟨g, k + j, none⟩ (.int .u8 ((t[j]'hlt).toNat : Int))) w.heap.size g m c (over L k ((lst t).take (j + 1)))) := by
          rw [← over_set L (lst t) k j _ HLen.out (by rw [HTL.out]; exact hlt) hget]
          exact HR.out.set (k + j) (by omega) _ _ rfl
        have HBn : Hid (Below w.heap.size w (wr.setCell ⟨g, k + j, none⟩ (.int .u8 ((t[j]'hlt).toNat : Int)))) := HB.out.setCell HR.out.low _
        have hkj : (k : Int) + j < m := by omega
        have htn : ((k : Int) + (j : Int)).toNat = k + j := by omega
        have hkj0 : 0 ≤ (k : Int) + j := by omega
        have hjz : (j : Int) < t.size := by omega
        generalize hV : ((t[j]'hlt).toNat : Int) = V at HN HBn
        clear hget
        go_wp2
        go_roundg (gk - 1)
        case measure => omega
        case rel => exact ⟨j + 1, by omega, by go_num, HN, HBn⟩
      · obtain rfl : j = t.size := by omega
        have htx := HR.out.rd.text
        rw [List.take_of_length_le (by rw [HTL.out]; exact Nat.le_refl _), HSB.out] at htx
        go_wp2
        go_ret2
        exact ⟨rfl, HB.out⟩
  · rw [if_neg h2]
    by_cases h3 : 65536 < i
    · go_enter Try.func25, Try.ntmps25
      go_wp2
      go_ret2
      exact ⟨rfl, Below.refl _ _⟩
    · go_enter Try.func25, Try.ntmps25
      go_wp2
      go_ret2
      exact ⟨rfl, Below.refl _ _⟩

set_option maxRecDepth 100000 in
set_option maxHeartbeats 4000000 in
theorem refSetBit_one (s : ByteArray) (k : Nat) (w : World) (hk : k < 524288) (hs : s.size ≤ 140737488300000) :
    Calls Try.prog 26 #[.string s, .int .i64 k, .int .i64 1] w fun e w' => e = .returned (.tuple #[.string (setBitB s k 1), .int .i64 (bitB s k : Nat), .int .i64 0]) ∧ Below w.heap.size w w' := by
  have HBi := fun w => refBit_any s k w (by unfold I64; omega) (by unfold maxLen; omega)
  have hSB : setBitB s k 1 = bs ((ext (lst s) (k / 8 + 1)).set (k / 8) (UInt8.ofNat (setN (byteAt s (k / 8)) (7 - k % 8) 1))) := rfl
  rw [hSB]
  obtain ⟨j, hj⟩ : ∃ j, k % 8 = j := ⟨_, rfl⟩
  rw [hj]
  have hj8 : j < 8 := by omega
  obtain ⟨q, hq⟩ : ∃ q, k / 8 = q := ⟨_, rfl⟩
  rw [hq]
  have hqz : (k : Int) / 8 = (q : Int) := by omega
  obtain ⟨m, hm⟩ : ∃ m, max s.size (q + 1) = m := ⟨_, rfl⟩
  have HA := fun w => long_any s (q + 1) m w (by omega) hs hm
  rw [show (((q + 1 : Nat)) : Int) = (q : Int) + 1 by omega] at HA
  have hle : (ext (lst s) (q + 1)).length = m := by rw [ext_len, len_lst, hm]
  have hO : bits .andNot .u8 ((byteAt s q : Nat) : Int) ((2 ^ (7 - j) : Nat) : Int) = (setN (byteAt s q) (7 - j) 0 : Nat) := u8_andNot_nat _ _ (byteAt_lt s q) (pow_lt8 _ (by omega)).1
  have hO1 : bits .or .u8 ((setN (byteAt s q) (7 - j) 0 : Nat) : Int) ((2 ^ (7 - j) : Nat) : Int) = (setN (byteAt s q) (7 - j) 1 : Nat) := by
    rw [u8_or_nat _ _ (setN_lt (byteAt s q) (7 - j) 0 (byteAt_lt s q) (by omega)) (pow_lt8 _ (by omega)).1]
    show (((byteAt s q &&& (255 - 2 ^ (7 - j))) ||| 2 ^ (7 - j) : Nat) : Int) = _
    rw [or_of_andNot _ _ (byteAt_lt s q) (by omega)]; rfl
  have hlt0 := setN_lt (byteAt s q) (7 - j) 0 (byteAt_lt s q) (by omega)
  have hlt1 := setN_lt (byteAt s q) (7 - j) 1 (byteAt_lt s q) (by omega)
  have HC : Hid (∀ w1 g c, Row w1 w.heap.size g m c (ext (lst s) (q + 1)) → w1.cell? ⟨g, q, none⟩ = some (.int .u8 (byteAt s q : Nat)) ∧ w1.frozen? ⟨g, q, none⟩ = false) := fun w1 g c h => ⟨by
    rw [h.cell q (by omega), ext_getD]; rfl, h.free q (Nat.lt_of_lt_of_le (by omega) h.fit)⟩
  generalize byteAt s q = cc at hO hO1 hlt0 hlt1 HC ⊢
  have HR0 : Hid (∀ w1 g c, Row w1 w.heap.size g m c (ext (lst s) (q + 1)) → Row (w1.setCell ⟨g, q, none⟩ (.int .u8 (setN cc (7 - j) 0 : Nat))) w.heap.size g m c ((ext (lst s) (q + 1)).set q (UInt8.ofNat (setN cc (7 - j) 0)))) := fun w1 g c h => h.set q (by omega) _ _ (ofNat_int _ hlt0)
  have HR1 : Hid (∀ w1 g c, Row w1 w.heap.size g m c ((ext (lst s) (q + 1)).set q (UInt8.ofNat (setN cc (7 - j) 0))) → Row (w1.setCell ⟨g, q, none⟩ (.int .u8 (setN cc (7 - j) 1 : Nat))) w.heap.size g m c ((ext (lst s) (q + 1)).set q (UInt8.ofNat (setN cc (7 - j) 1)))) := fun w1 g c h => by
    have := h.set q (by omega) _ _ (ofNat_int _ hlt1)
    rw [List.set_set] at this; exact this
  generalize setN cc (7 - j) 0 = R0 at hO hO1 hlt0 HR0 HR1 ⊢
  generalize setN cc (7 - j) 1 = R1 at hO1 hlt1 HR1 ⊢
  have hqm : (q : Int) < m := by omega
  have hqw : IntKind.i64.wrap (q : Int) = q := by rw [IntKind.wrap_i64]; omega
  obtain ⟨K, hK⟩ : ∃ K : Int, (k : Int) = K := ⟨_, rfl⟩
  have hkz : 0 ≤ K ∧ K < 524288 := by omega
  have hm8 : K.tmod 8 = (j : Int) := by rw [Int.tmod_eq_emod_of_nonneg (by omega)]; omega
  have hm8' : K % 8 = (j : Int) := by omega
  rw [hK] at HBi hqz ⊢
  generalize bitB s K = V at HBi ⊢
  clear hk hj hq hm hle hSB hK
  have hj' : j = 0 ∨ j = 1 ∨ j = 2 ∨ j = 3 ∨ j = 4 ∨ j = 5 ∨ j = 6 ∨ j = 7 := by omega
  rcases hj' with rfl | rfl | rfl | rfl | rfl | rfl | rfl | rfl
  all_goals
    simp only [Nat.reduceSub, Nat.reducePow, Int.cast_ofNat_Int] at hO hO1
    go_enter Try.func26, Try.ntmps26
    go_wp2_with fail
    refine (HBi _).mono ?_
    rintro e w0 ⟨rfl, rfl⟩
    go_wp2_with fail
    refine (HA _).mono ?_
    rintro e w1 ⟨hb1, g, c, rfl, hg1, hR1⟩
    obtain ⟨hc1, hf1⟩ := HC.out w1 g c hR1
    have hR2 := HR0.out w1 g c hR1
    have hbl2 := hb1.setCell (p := ⟨g, q, none⟩) hR1.low (.int .u8 (R0 : Int))
    have hc2 : (w1.setCell ⟨g, q, none⟩ (.int .u8 (R0 : Int))).cell? ⟨g, q, none⟩ = some (.int .u8 (R0 : Int)) := World.cell?_setCell_same _ _ _ hc1
    have hR3 := HR1.out _ g c hR2
    have htx := hR3.rd.text
    have HB : Hid (Below w0.heap.size w0 ((w1.setCell ⟨g, q, none⟩ (.int .u8 (R0 : Int))).setCell ⟨g, q, none⟩ (.int .u8 (R1 : Int)))) := hbl2.setCell hR1.low _
    clear hR3
    clear hb1 hg1 hR1 hR2 hbl2 HA HC
    go_wp2
    go_ret3
    exact ⟨rfl, HB.out⟩

set_option maxRecDepth 100000 in
set_option maxHeartbeats 4000000 in
theorem refSetBit_zero (s : ByteArray) (k : Nat) (w : World) (hk : k < 524288) (hs : s.size ≤ 140737488300000) :
    Calls Try.prog 26 #[.string s, .int .i64 k, .int .i64 0] w fun e w' => e = .returned (.tuple #[.string (setBitB s k 0), .int .i64 (bitB s k : Nat), .int .i64 0]) ∧ Below w.heap.size w w' := by
  have HBi := fun w => refBit_any s k w (by unfold I64; omega) (by unfold maxLen; omega)
  have hSB : setBitB s k 0 = bs ((ext (lst s) (k / 8 + 1)).set (k / 8) (UInt8.ofNat (setN (byteAt s (k / 8)) (7 - k % 8) 0))) := rfl
  rw [hSB]
  obtain ⟨j, hj⟩ : ∃ j, k % 8 = j := ⟨_, rfl⟩
  rw [hj]
  have hj8 : j < 8 := by omega
  obtain ⟨q, hq⟩ : ∃ q, k / 8 = q := ⟨_, rfl⟩
  rw [hq]
  have hqz : (k : Int) / 8 = (q : Int) := by omega
  obtain ⟨m, hm⟩ : ∃ m, max s.size (q + 1) = m := ⟨_, rfl⟩
  have HA := fun w => long_any s (q + 1) m w (by omega) hs hm
  rw [show (((q + 1 : Nat)) : Int) = (q : Int) + 1 by omega] at HA
  have hle : (ext (lst s) (q + 1)).length = m := by rw [ext_len, len_lst, hm]
  have hO : bits .andNot .u8 ((byteAt s q : Nat) : Int) ((2 ^ (7 - j) : Nat) : Int) = (setN (byteAt s q) (7 - j) 0 : Nat) := u8_andNot_nat _ _ (byteAt_lt s q) (pow_lt8 _ (by omega)).1
  have hO1 : bits .or .u8 ((setN (byteAt s q) (7 - j) 0 : Nat) : Int) ((2 ^ (7 - j) : Nat) : Int) = (setN (byteAt s q) (7 - j) 1 : Nat) := by
    rw [u8_or_nat _ _ (setN_lt (byteAt s q) (7 - j) 0 (byteAt_lt s q) (by omega)) (pow_lt8 _ (by omega)).1]
    show (((byteAt s q &&& (255 - 2 ^ (7 - j))) ||| 2 ^ (7 - j) : Nat) : Int) = _
    rw [or_of_andNot _ _ (byteAt_lt s q) (by omega)]; rfl
  have hlt0 := setN_lt (byteAt s q) (7 - j) 0 (byteAt_lt s q) (by omega)
  have hlt1 := setN_lt (byteAt s q) (7 - j) 1 (byteAt_lt s q) (by omega)
  have HC : Hid (∀ w1 g c, Row w1 w.heap.size g m c (ext (lst s) (q + 1)) → w1.cell? ⟨g, q, none⟩ = some (.int .u8 (byteAt s q : Nat)) ∧ w1.frozen? ⟨g, q, none⟩ = false) := fun w1 g c h => ⟨by
    rw [h.cell q (by omega), ext_getD]; rfl, h.free q (Nat.lt_of_lt_of_le (by omega) h.fit)⟩
  generalize byteAt s q = cc at hO hO1 hlt0 hlt1 HC ⊢
  have HR0 : Hid (∀ w1 g c, Row w1 w.heap.size g m c (ext (lst s) (q + 1)) → Row (w1.setCell ⟨g, q, none⟩ (.int .u8 (setN cc (7 - j) 0 : Nat))) w.heap.size g m c ((ext (lst s) (q + 1)).set q (UInt8.ofNat (setN cc (7 - j) 0)))) := fun w1 g c h => h.set q (by omega) _ _ (ofNat_int _ hlt0)
  have HR1 : Hid (∀ w1 g c, Row w1 w.heap.size g m c ((ext (lst s) (q + 1)).set q (UInt8.ofNat (setN cc (7 - j) 0))) → Row (w1.setCell ⟨g, q, none⟩ (.int .u8 (setN cc (7 - j) 1 : Nat))) w.heap.size g m c ((ext (lst s) (q + 1)).set q (UInt8.ofNat (setN cc (7 - j) 1)))) := fun w1 g c h => by
    have := h.set q (by omega) _ _ (ofNat_int _ hlt1)
    rw [List.set_set] at this; exact this
  generalize setN cc (7 - j) 0 = R0 at hO hO1 hlt0 HR0 HR1 ⊢
  generalize setN cc (7 - j) 1 = R1 at hO1 hlt1 HR1 ⊢
  have hqm : (q : Int) < m := by omega
  have hqw : IntKind.i64.wrap (q : Int) = q := by rw [IntKind.wrap_i64]; omega
  obtain ⟨K, hK⟩ : ∃ K : Int, (k : Int) = K := ⟨_, rfl⟩
  have hkz : 0 ≤ K ∧ K < 524288 := by omega
  have hm8 : K.tmod 8 = (j : Int) := by rw [Int.tmod_eq_emod_of_nonneg (by omega)]; omega
  have hm8' : K % 8 = (j : Int) := by omega
  rw [hK] at HBi hqz ⊢
  generalize bitB s K = V at HBi ⊢
  clear hk hj hq hm hle hSB hK
  have hj' : j = 0 ∨ j = 1 ∨ j = 2 ∨ j = 3 ∨ j = 4 ∨ j = 5 ∨ j = 6 ∨ j = 7 := by omega
  rcases hj' with rfl | rfl | rfl | rfl | rfl | rfl | rfl | rfl
  all_goals
    simp only [Nat.reduceSub, Nat.reducePow, Int.cast_ofNat_Int] at hO hO1
    go_enter Try.func26, Try.ntmps26
    go_wp2_with fail
    refine (HBi _).mono ?_
    rintro e w0 ⟨rfl, rfl⟩
    go_wp2_with fail
    refine (HA _).mono ?_
    rintro e w1 ⟨hb1, g, c, rfl, hg1, hR1⟩
    obtain ⟨hc1, hf1⟩ := HC.out w1 g c hR1
    have hR2 := HR0.out w1 g c hR1
    have hbl2 := hb1.setCell (p := ⟨g, q, none⟩) hR1.low (.int .u8 (R0 : Int))
    have htx := hR2.rd.text
    have HB : Hid (Below w0.heap.size w0 (w1.setCell ⟨g, q, none⟩ (.int .u8 (R0 : Int)))) := hbl2
    clear hb1 hg1 hR1 hR2 hbl2 HA HC
    go_wp2
    go_ret3
    exact ⟨rfl, HB.out⟩

theorem refSetBit_no (s : ByteArray) (i b : Int) (w : World) (h : ¬ (0 ≤ i ∧ i < 524288 ∧ 0 ≤ b ∧ b ≤ 1)) :
    Calls Try.prog 26 #[.string s, .int .i64 i, .int .i64 b] w fun e w' => e = .returned (.tuple #[.string ⟨#[]⟩, .int .i64 0, .int .i64 10]) ∧ Below w.heap.size w w' := by
  by_cases h1 : i < 0
  · go_enter Try.func26, Try.ntmps26
    go_wp2
    go_ret3
    exact ⟨rfl, Below.refl _ _⟩
  · by_cases h2 : 524288 ≤ i
    · go_enter Try.func26, Try.ntmps26
      go_wp2
      go_ret3
      exact ⟨rfl, Below.refl _ _⟩
    · have hi : 0 ≤ i ∧ i < 524288 := by omega
      by_cases h3 : b < 0
      · clear h h1 h2
        go_enter Try.func26, Try.ntmps26
        go_wp2
        go_ret3
        exact ⟨rfl, Below.refl _ _⟩
      · have h4 : 1 < b := by omega
        clear h h1 h2
        go_enter Try.func26, Try.ntmps26
        go_wp2
        go_ret3
        exact ⟨rfl, Below.refl _ _⟩

theorem refSetBit_any (s : ByteArray) (i b : Int) (w : World) (hs : s.size ≤ 140737488300000) :
    Calls Try.prog 26 #[.string s, .int .i64 i, .int .i64 b] w fun e w' => e = .returned (setBitR s i b) ∧ Below w.heap.size w w' := by
  unfold setBitR
  by_cases h : 0 ≤ i ∧ i < 524288 ∧ 0 ≤ b ∧ b ≤ 1
  · rw [if_pos h]
    obtain ⟨k, rfl⟩ : ∃ k : Nat, i = k := ⟨i.toNat, by omega⟩
    rw [Int.toNat_natCast]
    have : b = 0 ∨ b = 1 := by omega
    rcases this with rfl | rfl
    · exact refSetBit_zero s k w (by omega) hs
    · exact refSetBit_one s k w (by omega) hs
  · rw [if_neg h]
    exact refSetBit_no s i b w h
end Go.Proofs.Ytjikfpdlbjjmbaa
