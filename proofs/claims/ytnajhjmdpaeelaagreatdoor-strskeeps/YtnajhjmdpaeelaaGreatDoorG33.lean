/- Texts that the others stand on. -/
import Derived.Test.YtnajhjmdpaeelaaGreatDoorG28
import Derived.Lib.MinMax
import Derived.Lib.BufferWrite
import Derived.Lib.UnsafeStr
import Derived.Laws.BitsAllLaws
import Derived.Deep.RegionWith
namespace Go.Proofs.YtnajhjmdpaeelaaGreatDoor.Tx
open Go.RowKit Go.PlainAid
def I64 (a : Int) : Prop := -9223372036854775808 ≤ a ∧ a ≤ 9223372036854775807
theorem fromStart_any (i : Int) (n : Nat) (w : World) (hi : I64 i) (hn : n ≤ 9223372036854775807) :
    Calls Tryz.prog 189 #[.int .i64 i, .int .i64 n] w fun e w' => e = .returned (.int .i64 (fs n i)) ∧ w' = w := by
  unfold I64 at hi
  by_cases h : i < 0
  · have HF : Hid (fs n i = i + n) := if_pos h
    go_enter Tryz.func189, Tryz.ntmps189
    go_wp2
    go_ret
    exact ⟨by rw [HF.out]; rfl, rfl⟩
  · have HF : Hid (fs n i = i) := if_neg h
    go_enter Tryz.func189, Tryz.ntmps189
    go_wp2
    go_ret
    exact ⟨by rw [HF.out]; rfl, rfl⟩
theorem fs_bounds (n : Nat) (i : Int) (hi : I64 i) (hn : n ≤ 9223372036854775807) : I64 (fs n i) := by
  unfold I64 fs at *; split <;> omega
theorem span_any (s : ByteArray) (a b : Int) (w : World) (ha : I64 a) (hb : I64 b) (hs : s.size ≤ maxLen) :
    Calls Tryz.prog 156 #[.string s, .int .i64 a, .int .i64 b] w fun e w' => e = .returned (.string (spanB s a b)) ∧ w' = w := by
  unfold maxLen at hs
  have HA := fun w => fromStart_any a s.size w ha (by omega)
  have HB := fun w => fromStart_any b s.size w hb (by omega)
  have hfa := fs_bounds s.size a ha (by omega)
  have hfb := fs_bounds s.size b hb (by omega)
  have HS : Hid (spanB s a b = if spB s.size b < spA s.size a then ⟨#[]⟩ else s.extract (spA s.size a).toNat (spB s.size b + 1).toNat) := rfl
  have hA : max (fs s.size a) 0 = spA s.size a := rfl
  have hB : min (fs s.size b) ((s.size : Int) - 1) = spB s.size b := rfl
  unfold I64 at hfa hfb ha hb
  have hA0 : 0 ≤ spA s.size a ∧ spA s.size a ≤ 9223372036854775807 := by omega
  have hB0 : -9223372036854775808 ≤ spB s.size b ∧ spB s.size b < s.size := by omega
  generalize fs s.size a = X at *
  generalize fs s.size b = Y at *
  generalize spA s.size a = A at *
  generalize spB s.size b = B at *
  by_cases h : B < A
  · rw [if_pos h] at HS
    go_enter Tryz.func156, Tryz.ntmps156
    go_wp2_with fail
    refine (HA _).mono ?_
    rintro e w ⟨rfl, rfl⟩
    go_wp2_with fail
    refine (HB _).mono ?_
    rintro e w ⟨rfl, rfl⟩
    go_wp2
    go_ret
    exact ⟨by rw [HS.out]; rfl, rfl⟩
  · rw [if_neg h] at HS
    obtain ⟨lo, rfl⟩ : ∃ lo : Nat, A = lo := ⟨A.toNat, by omega⟩
    obtain ⟨hi, rfl⟩ : ∃ hi : Nat, B = (hi : Int) := ⟨B.toNat, by omega⟩
    go_enter Tryz.func156, Tryz.ntmps156
    go_wp2_with fail
    refine (HA _).mono ?_
    rintro e w ⟨rfl, rfl⟩
    go_wp2_with fail
    refine (HB _).mono ?_
    rintro e w ⟨rfl, rfl⟩
    go_wp2
    go_ret
    exact ⟨by rw [HS.out]; rfl, rfl⟩
theorem alloc_below (w : World) (o : Obj) : Below w.heap.size w (w.alloc o) := (Below.refl _ _).alloc (Nat.le_refl _) _
/-- Block g has these bytes. -/
def Bk (w : World) (g : Nat) (l : List UInt8) : Prop := w.heap[g]? = some (.cells (cells l).toArray 5 (0, 0))
theorem Bk.own {w : World} {g : Nat} {l : List UInt8} (h : Bk w g l) (B n : Nat) (hB : B ≤ g) (hn : l.length = n) (hm : n ≤ maxLen) : Own w B (some ⟨g, 0, none⟩) n n l := by
  refine ⟨by simp [cells, hn], .inr ⟨g, n, (cells l).toArray, rfl, hB, h, Nat.le_refl _, hm, by simp [cells, hn], ?_⟩⟩
  rw [List.take_of_length_le (by simp [cells, hn])]
theorem Bk.keep {w w' : World} {g : Nat} {l : List UInt8} (h : Bk w g l) (hb : Below w.heap.size w w') : Bk w' g l := by
  show _ = _
  rw [hb.block g (Array.getElem?_eq_some_iff.1 h).1]; exact h
theorem Bk.cell {w : World} {g : Nat} {l : List UInt8} (h : Bk w g l) (j : Nat) (hj : j < l.length) : w.cell? ⟨g, j, none⟩ = some (.int .u8 ((l.getD j 0).toNat : Nat)) := by
  have h' : w.heap[g]? = some (.cells (cells l).toArray 5 (0, 0)) := h
  simp [World.cell?, h', cells, List.getD_eq_getElem?_getD, hj]
theorem Bk.frozen {w : World} {g : Nat} {l : List UInt8} (h : Bk w g l) (j : Nat) : w.frozen? ⟨g, j, none⟩ = false := by
  have h' : w.heap[g]? = some (.cells (cells l).toArray 5 (0, 0)) := h
  simp [World.frozen?, h']
theorem Bk.set {w : World} {g : Nat} {l : List UInt8} (h : Bk w g l) (j : Nat) (b : UInt8) (x : Int) (hx : x = (b.toNat : Nat)) : Bk (w.setCell ⟨g, j, none⟩ (.int .u8 x)) g (l.set j b) := by
  have h' : w.heap[g]? = some (.cells (cells l).toArray 5 (0, 0)) := h
  subst hx
  show (w.setCell ⟨g, j, none⟩ _).heap[g]? = _
  simp [World.setCell, Array.getElem?_modify, h', cells, List.map_set]
theorem made_list (n : Nat) : madeCells #[.int .u8 0] n = (cells (List.replicate n 0)).toArray := by
  apply Array.ext
  · simp [madeCells, cells]
  · intro i h1 h2
    simp [madeCells, Nat.mod_one, cells]
/-- copy(d, s), d in block g from place o on. -/
theorem copy_str (w : World) (g o dLen dCap : Nat) (l : List UInt8) (s : ByteArray) (h : Bk w g l) (hle : s.size ≤ dLen) (hfit : o + s.size ≤ l.length) :
    ∃ w', (∀ ty, (Builtin.copy_ #[82, 9] ty #[.slice (some ⟨g, o, none⟩) dLen dCap, .string s]).run Tryz.prog w = .ok (goInt s.size) w') ∧ Bk w' g (over l o (lst s)) ∧ ∀ B, B ≤ g → Below B w w' := by
  have h' : w.heap[g]? = some (.cells (cells l).toArray 5 (0, 0)) := h
  refine ⟨_, fun ty => Lib.run_copy_row_string (P := Tryz.prog) w 82 9 ty 5 g o dLen dCap s (cells l).toArray 5 Tryz.underlying82 (by kernel_rfl) h hle (by simpa [cells] using hfit), ?_, fun B hB => ?_⟩
  · show _ = _
    rw [setRow_heap w g (cells l).toArray _ 5 (0, 0) h]
    congr 3
    simp [over, cells, Lib.byteCells, List.map_append, List.map_take, List.map_drop]
  · exact ⟨rfl, rfl, rfl, by simp, fun k hk => setRow_other _ _ _ _ (by omega)⟩
theorem emp_of (s : ByteArray) (h : s.size = 0) : s = ⟨#[]⟩ := by
  apply ByteArray.ext
  exact Array.eq_empty_of_size_eq_zero h
set_option maxRecDepth 100000 in
theorem Ones_any (x : Nat) (w : World) (h : x < 256) : Calls Tryz.prog 161 #[.int .u8 x] w fun e w' => e = .returned (.int .i64 (pop x : Nat)) ∧ w' = w := by
  have hp := Lib.pop8_int (x : Int) (by omega) (by omega)
  rw [show ((x : Int).toNat) = x from Int.toNat_natCast x] at hp
  obtain ⟨X, hX⟩ : ∃ X : Int, (x : Int) = X := ⟨_, rfl⟩
  have h0 : 0 ≤ X ∧ X ≤ 255 := by omega
  rw [hX] at hp ⊢
  have HP : Hid (wrap64 (Lib.pop8 X) = (pop x : Nat)) := by
    show _ = _
    unfold wrap64; exact hp
  generalize pop x = p at HP ⊢
  clear hX hp h
  go_enter Tryz.func161, Tryz.ntmps161
  go_wp2
  go_ret
  exact ⟨by rw [← HP.out]; rfl, rfl⟩
theorem popL_done (l : List UInt8) (k : Nat) (h : l.length ≤ k) : popL (l.take k) = popL l := by rw [List.take_of_length_le h]
set_option maxHeartbeats 1000000 in
theorem Count_any (s : ByteArray) (a b : Int) (w : World) (ha : I64 a) (hb : I64 b) (hs : s.size ≤ 140737488355328) :
    Calls Tryz.prog 115 #[.string s, .int .i64 a, .int .i64 b] w fun e w' => e = .returned (.int .i64 (popL (lst (spanB s a b)) : Nat)) ∧ w' = w := by
  have H1 := fun w => span_any s a b w ha hb (by unfold maxLen; omega)
  have hz := Nat.le_trans (size_spanB s a b) hs
  generalize spanB s a b = t at H1 hz ⊢
  have HL : Hid ((lst t).length = t.size) := len_lst t
  clear hs ha hb
  go_enter Tryz.func115, Tryz.ntmps115
  go_wp2_with fail
  refine (H1 _).mono ?_
  rintro e w1 ⟨rfl, rfl⟩
  clear H1
  go_wp2
  go_loopg [7, 8] t.size (fun g nv i wr => w1 = wr ∧ ∃ k n : Nat, k + g = t.size ∧ i = .int .i64 k ∧ nv = .int .i64 n ∧ Hid (popL ((lst t).take k) = n))
  case atStart => exact ⟨rfl, 0, 0, by omega, rfl, rfl, by show _ = _; simp [popL]⟩
  case round =>
    obtain ⟨rfl, k, n, hk, rfl, rfl, HN⟩ := hrel
    have hn : n ≤ 1125899906842624 := by
      have := popL_le ((lst t).take k)
      rw [HN.out, List.length_take, HL.out] at this
      omega
    by_cases hlt : k < t.size
    · have HO := fun w => Ones_any (t[k]'hlt).toNat w (t[k]'hlt).toNat_lt
      have hp8 : pop (t[k]'hlt).toNat ≤ 8 := pop_le _ (t[k]'hlt).toNat_lt
      have HP : Hid (popL ((lst t).take (k + 1)) = n + pop (t[k]'hlt).toNat) := by
        show _ = _
        rw [popL_take _ _ (by rw [HL.out]; exact hlt), HN.out]
        have := byteAt_in t k hlt
        unfold byteAt at this
        rw [this]
      generalize hP : pop (t[k]'hlt).toNat = P at HO hp8 HP
      clear hP
      go_wp2_with (go_at_call 161; refine (HO _).mono ?_; rintro e w ⟨rfl, rfl⟩)
      go_roundg (gk - 1)
      case measure => omega
      case rel => exact ⟨rfl, k + 1, n + P, by omega, by go_num, by go_num, HP⟩
    · have HE : Hid (popL (lst t) = n) := by show _ = _; rw [← HN.out, popL_done _ _ (by rw [HL.out]; omega)]
      go_wp2
      go_ret
      exact ⟨by rw [HE.out]; rfl, rfl⟩
theorem Append_any (s t : ByteArray) (w : World) (h1 : s.size ≤ 1000000) (h2 : t.size ≤ 1000000) (h : s.size + t.size ≤ 65536) :
    Calls Tryz.prog 102 #[.string s, .string t] w fun e w' => e = .returned (.tuple #[.string (s ++ t), .int .i64 0]) ∧ w' = w := by
  go_enter Tryz.func102, Tryz.ntmps102
  go_wp2
  go_ret2
  exact ⟨rfl, rfl⟩
theorem Append_no (s t : ByteArray) (w : World) (h1 : s.size ≤ 1000000) (h2 : t.size ≤ 1000000) (h : ¬ s.size + t.size ≤ 65536) :
    Calls Tryz.prog 102 #[.string s, .string t] w fun e w' => e = .returned (.tuple #[.string ⟨#[]⟩, .int .i64 11]) ∧ w' = w := by
  go_enter Tryz.func102, Tryz.ntmps102
  go_wp2
  go_ret2
  exact ⟨rfl, rfl⟩
theorem mask_any (k : Nat) (w : World) (hk : k ≤ 9223372036854775807) : Calls Tryz.prog 160 #[.int .i64 k] w fun e w' => e = .returned (.int .u8 ((2 ^ (7 - k % 8) : Nat) : Int)) ∧ w' = w := by
  obtain ⟨j, hj⟩ : ∃ j, k % 8 = j := ⟨_, rfl⟩
  have hj8 : j < 8 := by omega
  have hm : (k : Int).tmod 8 = (j : Int) := by rw [Int.tmod_eq_emod_of_nonneg (by omega)]; omega
  rw [hj]
  clear hj
  have : j = 0 ∨ j = 1 ∨ j = 2 ∨ j = 3 ∨ j = 4 ∨ j = 5 ∨ j = 6 ∨ j = 7 := by omega
  rcases this with rfl | rfl | rfl | rfl | rfl | rfl | rfl | rfl
  all_goals
    go_enter Tryz.func160, Tryz.ntmps160
    go_wp2
    go_ret
    exact ⟨by simp, rfl⟩
theorem bitB_nat (s : ByteArray) (k : Nat) : bitB s (k : Int) = bitN (byteAt s (k / 8)) (7 - k % 8) := by
  unfold bitB; rw [if_neg (by omega)]; rfl
theorem bitB_neg (s : ByteArray) (i : Int) (h : i < 0) : bitB s i = 0 := if_pos h
theorem bitB_le (s : ByteArray) (i : Int) : bitB s i ≤ 1 := by
  unfold bitB; split
  · omega
  · exact bitN_le _ _
set_option maxHeartbeats 1000000 in
theorem BitQ_any (s : ByteArray) (i : Int) (w : World) (hi : I64 i) (hs : s.size ≤ maxLen) :
    Calls Tryz.prog 112 #[.string s, .int .i64 i] w fun e w' => e = .returned (.int .i64 (bitB s i : Nat)) ∧ ∃ m, w' = w.drewN m := by
  unfold maxLen at hs
  unfold I64 at hi
  by_cases h : i < 0
  · rw [bitB_neg s i h]
    go_enter Tryz.func112, Tryz.ntmps112
    go_wp2
    go_ret
    exact ⟨rfl, 0, rfl⟩
  obtain ⟨k, rfl⟩ : ∃ k : Nat, i = k := ⟨i.toNat, by omega⟩
  rw [bitB_nat]
  obtain ⟨q, hq⟩ : ∃ q, k / 8 = q := ⟨_, rfl⟩
  rw [hq]
  have hqz : (k : Int) / 8 = (q : Int) := by omega
  by_cases hlt : q < s.size
  · have HM := fun w => mask_any k w (by omega)
    have hj : 7 - k % 8 < 8 := by omega
    generalize 7 - k % 8 = j at HM hj ⊢
    have hA : bits .and .u8 ((s[q]'hlt).toNat : Int) ((2 ^ j : Nat) : Int) = ((byteAt s q &&& 2 ^ j : Nat) : Int) := by
      rw [byteAt_in s q hlt]; exact u8_and_nat _ _ (s[q]'hlt).toNat_lt (pow_lt8 j hj).1
    have hZ := and_zero (byteAt s q) j (byteAt_lt s q) hj
    have h1 := bitN_le (byteAt s q) j
    generalize byteAt s q &&& 2 ^ j = R at hA hZ
    generalize bitN (byteAt s q) j = V at hZ h1 ⊢
    obtain ⟨M, hM⟩ : ∃ M : Int, ((2 ^ j : Nat) : Int) = M := ⟨_, rfl⟩
    rw [hM] at hA HM
    clear hM hj hq
    by_cases hV : V = 0
    · have hR := hZ.2 hV
      subst hV hR
      clear hZ h1
      go_enter Tryz.func112, Tryz.ntmps112
      go_wp2
      go_quiet ((go_at_call 160; refine Calls.quiet_of_same (HM _)))
      go_wp2
      go_ret
      exact ⟨rfl, _, rfl⟩
    · have hR : ((R : Int) == 0) = false := by simp; exact fun e => hV (hZ.1 e)
      obtain rfl : V = 1 := by omega
      clear hZ h1 hV
      go_enter Tryz.func112, Tryz.ntmps112
      go_wp2
      go_quiet ((go_at_call 160; refine Calls.quiet_of_same (HM _)))
      go_wp2
      go_ret
      exact ⟨rfl, _, rfl⟩
  · rw [byteAt_out s q (by omega), bitN_zero]
    clear hq
    go_enter Tryz.func112, Tryz.ntmps112
    go_wp2
    go_ret
    exact ⟨rfl, 0, rfl⟩
theorem i64_and1 (n : Int) : bits .and .i64 n 1 = n % 2 := by
  have h1 : (BitVec.ofInt 64 1).toNat = 2 ^ 1 - 1 := by decide
  have key : (BitVec.ofInt 64 n &&& BitVec.ofInt 64 1).toNat = (n % ((2 ^ 64 : Nat) : Int)).toNat % 2 ^ 1 := by
    rw [BitVec.toNat_and, BitVec.toNat_ofInt, h1, Nat.and_two_pow_sub_one_eq_mod]
  show IntKind.i64.wrap ((BitVec.ofInt 64 n &&& BitVec.ofInt 64 1).toNat : Nat) = n % 2
  rw [key, IntKind.wrap_i64]
  omega
theorem over_zeros (l : List UInt8) (n m : Nat) (hm : max l.length n = m) : over (List.replicate m 0) 0 l = ext l n := by
  unfold over ext
  rw [List.take_zero, List.nil_append, List.drop_replicate]
  congr 2; omega
set_option maxHeartbeats 1000000 in
theorem atLeast_any (s : ByteArray) (n m : Nat) (w : World) (h1 : 1 ≤ n) (hn : n ≤ 1000000) (hs : s.size ≤ 140737488355328) (hm : max s.size n = m) :
    Calls Tryz.prog 158 #[.string s, .int .i64 n] w fun e w' => e = .returned (.slice (some ⟨w.heap.size, 0, none⟩) m m) ∧ Below w.heap.size w w' ∧ Bk w' w.heap.size (ext (lst s) n) := by
  have hmax : max (s.size : Int) (n : Int) = (m : Int) := by omega
  have hmk := run_make_row' (P := Tryz.prog) 82 5 (.int .u8 0) 1 Tryz.underlying82 Tryz.info5 rfl .i64 .i64 m (by omega) (by omega)
  obtain ⟨wf, hwf⟩ : ∃ wf, w.alloc (.cells (madeCells #[.int .u8 0] m) 5) = wf := ⟨_, rfl⟩
  have hB0 : Bk wf w.heap.size (List.replicate m 0) := by
    show _ = _
    rw [← hwf, heap_alloc_new, made_list]
  have HB0 : Hid (Below w.heap.size w wf) := by show Below _ _ _; rw [← hwf]; exact alloc_below w _
  obtain ⟨w2, hcp, hB2, hb2⟩ := copy_str wf w.heap.size 0 m m _ s hB0 (by omega) (by simp; omega)
  rw [over_zeros _ n _ (by rw [len_lst]; exact hm)] at hB2
  have HB2 : Hid (Below w.heap.size w w2) := HB0.out.trans (hb2 _ (Nat.le_refl _))
  have HK : Hid (Bk w2 w.heap.size (ext (lst s) n)) := hB2
  clear hB0 hb2 hB2
  go_enter Tryz.func158, Tryz.ntmps158
  go_wp2
  go_ret
  exact ⟨rfl, HB2.out, HK.out⟩
theorem slice_lo (g n c lo : Nat) (h1 : lo ≤ n) (h2 : lo < c) :
    ∀ wx, (Instr.sliceAt 82 (.slice (some ⟨g, 0, none⟩) n c) (some (.int .i64 lo)) none none).run Tryz.prog wx = .ok (.slice (some ⟨g, lo, none⟩) (n - lo) (c - lo)) wx := by
  have ht : Tryz.prog.underlying 82 = some (.slice (Tryz.prog.elem 82)) := by rw [Tryz.elem82]; exact Tryz.underlying82
  intro wx
  rw [run_sliceAt_slice _ _ _ _ _ _ ht, run_slice_l (P := Tryz.prog) wx 82 _ n c ht .i64 lo (by omega) (by omega), Tryz.elem82, Tryz.size5]
  simp only [Result.andThen, sliced, Int.toNat_natCast]
  rw [if_neg (by omega)]
  simp [add_flat]
theorem Bk.text {w : World} {g : Nat} {l : List UInt8} (h : Bk w g l) (n : Nat) (hn : l.length = n) (hm : n ≤ maxLen) : (convert 82 9 (.slice (some ⟨g, 0, none⟩) n n)).run Tryz.prog w = .ok (.string (bs l)) w :=
  (h.own 0 n (Nat.zero_le _) hn hm).rd.text
theorem over_len (l r : List UInt8) (o : Nat) (h : o + r.length ≤ l.length) : (over l o r).length = l.length := by
  unfold over; simp; omega
theorem notEmp (t : ByteArray) (h : t.size ≠ 0) : t.toList.isEmpty = false := by
  rw [ByteArray.toList_eq]
  cases hq : t.data.toList with
  | nil => exact absurd (by rw [← len_lst, lst, hq]; rfl) h
  | cons b r => rfl
set_option maxHeartbeats 1000000 in
theorem SetRange_any (s : ByteArray) (i : Int) (t : ByteArray) (w : World) (hi : I64 i) (hs : s.size ≤ 140737488355328) (ht : t.size ≤ 140737488355328) :
    Calls Tryz.prog 109 #[.string s, .int .i64 i, .string t] w fun e w' => e = .returned (setRangeR s i t) ∧ Below w.heap.size w w' := by
  unfold I64 at hi
  unfold setRangeR
  by_cases h : i < 0
  · rw [if_pos h]
    go_enter Tryz.func109, Tryz.ntmps109
    go_wp2
    go_ret2
    exact ⟨rfl, Below.refl _ _⟩
  rw [if_neg h]
  by_cases h0 : t.size = 0
  · rw [if_pos h0, emp_of t h0]
    go_enter Tryz.func109, Tryz.ntmps109
    go_wp2
    go_ret2
    exact ⟨rfl, Below.refl _ _⟩
  rw [if_neg h0]
  have hne := notEmp t h0
  by_cases h2 : i + t.size ≤ 65536
  · rw [if_pos h2]
    obtain ⟨k, rfl⟩ : ∃ k : Nat, i = k := ⟨i.toNat, by omega⟩
    rw [Int.toNat_natCast]
    obtain ⟨n, hn⟩ : ∃ n, k + t.size = n := ⟨_, rfl⟩
    obtain ⟨m, hm⟩ : ∃ m, max s.size n = m := ⟨_, rfl⟩
    have hnz : (k : Int) + t.size = (n : Int) := by omega
    have hnz' : (k : Int) + t.size ≤ 65536 := by omega
    have HA := fun w => atLeast_any s n m w (by omega) (by omega) hs hm
    have hle : (ext (lst s) n).length = m := by rw [ext_len, len_lst, hm]
    have hsl := slice_lo w.heap.size m m k (by omega) (by omega)
    have HST : Hid (∀ w1, Bk w1 w.heap.size (ext (lst s) n) → ∃ w', (∀ ty, (Builtin.copy_ #[82, 9] ty #[.slice (some ⟨w.heap.size, k, none⟩) (m - k) (m - k), .string t]).run Tryz.prog w1 = .ok (goInt t.size) w') ∧ Bk w' w.heap.size (over (ext (lst s) n) k (lst t)) ∧ Below w.heap.size w1 w' ∧ (convert 82 9 (.slice (some ⟨w.heap.size, 0, none⟩) m m)).run Tryz.prog w' = .ok (.string (setRangeB s k t)) w') := by
      intro w1 hw1
      obtain ⟨w2, hcp, hB2, hb2⟩ := copy_str w1 w.heap.size k (m - k) (m - k) _ t hw1 (by omega) (by omega)
      refine ⟨w2, hcp, hB2, hb2 _ (Nat.le_refl _), ?_⟩
      rw [hB2.text m (by rw [over_len _ _ _ (by rw [len_lst]; omega), hle]) (by unfold maxLen; omega)]
      unfold setRangeB; rw [hn]
    have hkm : (k : Int) ≤ m := by omega
    clear hle hm hn
    go_enter Tryz.func109, Tryz.ntmps109
    go_wp2_with fail
    refine (HA _).mono ?_
    rintro e w1 ⟨rfl, hb1, hk1⟩
    obtain ⟨w2, hcp, -, hb2, htx⟩ := HST.out w1 hk1
    have HB : Hid (Below w.heap.size w w2) := hb1.trans hb2
    clear hb1 hk1 hb2
    go_wp2
    go_ret2
    exact ⟨rfl, HB.out⟩
  · rw [if_neg h2]
    by_cases h3 : 65536 < i
    · go_enter Tryz.func109, Tryz.ntmps109
      go_wp2
      go_ret2
      exact ⟨rfl, Below.refl _ _⟩
    · go_enter Tryz.func109, Tryz.ntmps109
      go_wp2
      go_ret2
      exact ⟨rfl, Below.refl _ _⟩
end Go.Proofs.YtnajhjmdpaeelaaGreatDoor.Tx
