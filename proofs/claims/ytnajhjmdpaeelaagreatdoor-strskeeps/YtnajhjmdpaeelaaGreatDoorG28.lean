/- Texts that the others stand on. -/
import Derived.Test.YtnajhjmdpaeelaaGreatDoorG23
import Derived.Lib.BitFns
namespace Go.Proofs.YtnajhjmdpaeelaaGreatDoor.Tx
open Go.RowKit Go.PlainAid
def Int64 (n : Int) : Prop := -9223372036854775808 ≤ n ∧ n < 9223372036854775808
def addO (a b : Int) : Option Int := if -9223372036854775808 ≤ a + b ∧ a + b < 9223372036854775808 then some (a + b) else none
theorem addO_some {a b : Int} (h : Int64 (a + b)) : addO a b = some (a + b) := if_pos h
theorem addO_none {a b : Int} (h : ¬ Int64 (a + b)) : addO a b = none := if_neg h
theorem Add_any (a b : Int) (w : World) (ha : Int64 a) (hb : Int64 b) :
    Calls Tryz.prog 153 #[.int .i64 a, .int .i64 b] w fun e w' => e = .returned (i64R (addO a b)) ∧ w' = w := by
  unfold Int64 at ha hb
  by_cases h : Int64 (a + b)
  · have HO : Hid (addO a b = some (a + b)) := addO_some h
    unfold Int64 at h
    by_cases hb0 : 0 ≤ b
    · go_enter Tryz.func153, Tryz.ntmps153
      go_wp2
      go_ret2
      exact ⟨by rw [HO.out]; rfl, rfl⟩
    · go_enter Tryz.func153, Tryz.ntmps153
      go_wp2
      go_ret2
      exact ⟨by rw [HO.out]; rfl, rfl⟩
  · have HO : Hid (addO a b = none) := addO_none h
    unfold Int64 at h
    by_cases hb0 : 0 ≤ b
    · have hw : wrap64 (a + b) = a + b - 18446744073709551616 := by unfold wrap64; omega
      go_enter Tryz.func153, Tryz.ntmps153
      go_wp2
      go_ret2
      exact ⟨by rw [HO.out]; rfl, rfl⟩
    · have hw : wrap64 (a + b) = a + b + 18446744073709551616 := by unfold wrap64; omega
      go_enter Tryz.func153, Tryz.ntmps153
      go_wp2
      go_ret2
      exact ⟨by rw [HO.out]; rfl, rfl⟩
def cutB (s : ByteArray) (n : Int) : ByteArray := if n < (s.size : Int) then s.extract 0 n.toNat else s
theorem size_cutB (s : ByteArray) : (cutB s 30).size ≤ 30 := by
  unfold cutB
  split
  · simp; omega
  · omega
theorem Cut_any (s : ByteArray) (n : Int) (w : World) (h0 : 0 ≤ n) :
    Calls Tryz.prog 13 #[.string s, .int .i64 n] w fun e w' => e = .returned (.string (cutB s n)) ∧ w' = w := by
  by_cases h : n < s.size
  · have HC : Hid (cutB s n = s.extract 0 n.toNat) := by show cutB s n = _; rw [cutB, if_pos h]
    go_enter Tryz.func13, Tryz.ntmps13
    go_wp2
    go_ret
    exact ⟨by rw [HC.out]; simp, rfl⟩
  · have HC : Hid (cutB s n = s) := by show cutB s n = _; rw [cutB, if_neg h]
    go_enter Tryz.func13, Tryz.ntmps13
    go_wp2
    go_ret
    exact ⟨by rw [HC.out]; rfl, rfl⟩
end Go.Proofs.YtnajhjmdpaeelaaGreatDoor.Tx
namespace Go.Proofs.YtnajhjmdpaeelaaGreatDoor
open Go.RowKit Go.PlainAid
theorem Tryz.size5 (w : World) : (sizeOf 5).run Tryz.prog w = .ok 1 w := by go_simp
theorem Tryz.elem82 : Tryz.prog.elem 82 = 5 := by simp [Program.elem, Tryz.underlying82]
theorem Tryz.info5 : (Tryz.prog.info? 5).map (fun i => (i.zero, i.size, i.bytes)) = some (some (.int .u8 0), 1, 1) := by kernel_rfl
end Go.Proofs.YtnajhjmdpaeelaaGreatDoor
namespace Go.Proofs.YtnajhjmdpaeelaaGreatDoor.Tx
open Go.RowKit Go.PlainAid
/-- A place, counted from the end if it is below 0. -/
def fs (n : Nat) (i : Int) : Int := if i < 0 then i + n else i
def spA (n : Nat) (a : Int) : Int := max (fs n a) 0
def spB (n : Nat) (b : Int) : Int := min (fs n b) ((n : Int) - 1)
/-- The span a to b of a text. -/
def spanB (s : ByteArray) (a b : Int) : ByteArray := if spB s.size b < spA s.size a then ⟨#[]⟩ else s.extract (spA s.size a).toNat (spB s.size b + 1).toNat
theorem size_spanB (s : ByteArray) (a b : Int) : (spanB s a b).size ≤ s.size := by
  unfold spanB
  split
  · exact Nat.zero_le _
  · simp; omega
/-- The bits of a byte, of a row of bytes. -/
abbrev pop (n : Nat) : Nat := Lib.onesCount n
def popL (l : List UInt8) : Nat := (l.map fun b => pop b.toNat).sum
theorem pop_le (c : Nat) (h : c < 256) : pop c ≤ 8 := Lib.onesCount_le8 ⟨c, h⟩
theorem popL_append (l r : List UInt8) : popL (l ++ r) = popL l + popL r := by simp [popL]
theorem popL_cons (b : UInt8) (l : List UInt8) : popL (b :: l) = pop b.toNat + popL l := by simp [popL]
theorem popL_le (l : List UInt8) : popL l ≤ 8 * l.length := by
  induction l with
  | nil => simp [popL]
  | cons b l ih =>
    rw [popL_cons, List.length_cons]
    have := pop_le b.toNat b.toNat_lt
    omega
theorem popL_take (l : List UInt8) (k : Nat) (h : k < l.length) : popL (l.take (k + 1)) = popL (l.take k) + pop (l.getD k 0).toNat := by
  rw [List.take_add_one, popL_append, List.getElem?_eq_getElem h, Option.toList_some, popL_cons, List.getD_eq_getElem?_getD, List.getElem?_eq_getElem h]
  simp [popL]
/-- Bit j of a byte, and a byte with it turned. -/
def bitN (x j : Nat) : Nat := x / 2 ^ j % 2
def setN (x j b : Nat) : Nat := if b = 1 then x ||| 2 ^ j else x &&& (255 - 2 ^ j)
theorem bitN_le (x j : Nat) : bitN x j ≤ 1 := by unfold bitN; omega
theorem bit_facts : ∀ x : Fin 256, ∀ j : Fin 8, ((x.val &&& 2 ^ j.val = 0) ↔ bitN x.val j.val = 0) ∧ (x.val ||| 2 ^ j.val) < 256 ∧ (x.val &&& (255 - 2 ^ j.val)) < 256 ∧ ((x.val &&& (255 - 2 ^ j.val)) ||| 2 ^ j.val) = (x.val ||| 2 ^ j.val) := by decide +kernel
theorem and_zero (x j : Nat) (hx : x < 256) (hj : j < 8) : (x &&& 2 ^ j = 0) ↔ bitN x j = 0 := (bit_facts ⟨x, hx⟩ ⟨j, hj⟩).1
theorem setN_lt (x j b : Nat) (hx : x < 256) (hj : j < 8) : setN x j b < 256 := by
  have := bit_facts ⟨x, hx⟩ ⟨j, hj⟩
  unfold setN; split
  · exact this.2.1
  · exact this.2.2.1
theorem pow_lt8 (j : Nat) (h : j < 8) : 2 ^ j < 256 ∧ 0 < 2 ^ j := by
  have : ∀ j : Fin 8, 2 ^ j.val < 256 ∧ 0 < 2 ^ j.val := by decide
  exact this ⟨j, h⟩
/-- A row of bytes, with zero bytes up to n. -/
def ext (l : List UInt8) (n : Nat) : List UInt8 := l ++ List.replicate (n - l.length) 0
theorem ext_len (l : List UInt8) (n : Nat) : (ext l n).length = max l.length n := by simp [ext]; omega
theorem ext_getD (l : List UInt8) (n k : Nat) : (ext l n).getD k 0 = l.getD k 0 := by
  unfold ext
  rw [List.getD_eq_getElem?_getD, List.getD_eq_getElem?_getD]
  by_cases h : k < l.length
  · rw [List.getElem?_append_left h]
  · rw [List.getElem?_append_right (by omega), List.getElem?_replicate, List.getElem?_eq_none (l := l) (by omega)]
    split <;> rfl
/-- A row of bytes with others laid over it. -/
def over (l : List UInt8) (o : Nat) (r : List UInt8) : List UInt8 := l.take o ++ r ++ l.drop (o + r.length)
def byteAt (s : ByteArray) (k : Nat) : Nat := ((lst s).getD k 0).toNat
theorem byteAt_lt (s : ByteArray) (k : Nat) : byteAt s k < 256 := ((lst s).getD k 0).toNat_lt
theorem byteAt_in (s : ByteArray) (k : Nat) (h : k < s.size) : byteAt s k = (s[k]'h).toNat := by
  unfold byteAt
  rw [List.getD_eq_getElem?_getD, List.getElem?_eq_getElem (by simpa [lst] using h)]
  rfl
theorem byteAt_out (s : ByteArray) (k : Nat) (h : s.size ≤ k) : byteAt s k = 0 := by
  unfold byteAt
  rw [List.getD_eq_getElem?_getD, List.getElem?_eq_none (by simpa [lst] using h)]; rfl
/-- What Bit tells. -/
def bitB (s : ByteArray) (i : Int) : Nat := if i < 0 then 0 else bitN (byteAt s (i.toNat / 8)) (7 - i.toNat % 8)
theorem bitN_zero (j : Nat) : bitN 0 j = 0 := by unfold bitN; simp
/-- A text with bit k made b. -/
def setBitB (s : ByteArray) (k b : Nat) : ByteArray := bs ((ext (lst s) (k / 8 + 1)).set (k / 8) (UInt8.ofNat (setN (byteAt s (k / 8)) (7 - k % 8) b)))
/-- What SetBit answers. -/
def setBitR (s : ByteArray) (i b : Int) : Value :=
  if 0 ≤ i ∧ i < 524288 ∧ 0 ≤ b ∧ b ≤ 1 then .tuple #[.string (setBitB s i.toNat b.toNat), .int .i64 (bitB s i : Nat), .int .i64 0]
  else .tuple #[.string ⟨#[]⟩, .int .i64 0, .int .i64 10]
/-- What SetRange answers. -/
def setRangeB (s : ByteArray) (k : Nat) (t : ByteArray) : ByteArray := bs (over (ext (lst s) (k + t.size)) k (lst t))
def setRangeR (s : ByteArray) (i : Int) (t : ByteArray) : Value :=
  if i < 0 then .tuple #[.string ⟨#[]⟩, .int .i64 25]
  else if t.size = 0 then .tuple #[.string s, .int .i64 0]
  else if i + t.size ≤ 65536 then .tuple #[.string (setRangeB s i.toNat t), .int .i64 0]
  else .tuple #[.string ⟨#[]⟩, .int .i64 11]
/-- What Incr answers. -/
def numO (s : ByteArray) : Option Int := if s.size = 0 then some 0 else parseL (lst s)
def incrR (s : ByteArray) (by_ : Int) : Value :=
  match numO s with
  | none => .tuple #[.string ⟨#[]⟩, .int .i64 0, .int .i64 5]
  | some n => match addO n by_ with
    | none => .tuple #[.string ⟨#[]⟩, .int .i64 0, .int .i64 6]
    | some m => .tuple #[.string (bs (fmtL m)), .int .i64 m, .int .i64 0]
end Go.Proofs.YtnajhjmdpaeelaaGreatDoor.Tx
namespace Go.Proofs.YtnajhjmdpaeelaaGreatDoor.Tx
open Go.RowKit Go.PlainAid
theorem emp_size (s : ByteArray) (h : s.size = 0) : s = ⟨#[]⟩ := by
  apply ByteArray.ext
  exact Array.eq_empty_of_size_eq_zero h
theorem not_emp (t : ByteArray) (h : t.size ≠ 0) : t.toList.isEmpty = false := by
  rw [ByteArray.toList_eq]
  cases hq : t.data.toList with
  | nil => exact absurd (by rw [← len_lst, lst, hq]; rfl) h
  | cons b r => rfl
theorem number_any (s : ByteArray) (w : World) (hs : s.size ≤ maxLen) :
    Calls Tryz.prog 152 #[.string s] w fun e w' => e = .returned (i64R (numO s)) ∧ w' = w := by
  by_cases h : s.size = 0
  · rw [emp_size s h]
    go_enter Tryz.func152, Tryz.ntmps152
    go_wp2
    go_ret2
    exact ⟨rfl, rfl⟩
  · have hne := not_emp s h
    have HP := fun w => Parse_any s w hs _ rfl
    have HN : Hid (numO s = parseL (lst s)) := if_neg h
    unfold i64R at HP
    generalize parseL (lst s) = o at HP HN
    generalize ho1 : o.getD 0 = x at HP
    generalize ho2 : o.isSome = y at HP
    have HO : Hid (i64R o = .tuple #[.int .i64 x, .bool y]) := by show _ = _; unfold i64R; rw [ho1, ho2]
    clear ho1 ho2 h
    go_enter Tryz.func152, Tryz.ntmps152
    go_wp2_with fail
    refine (HP _).mono ?_
    rintro e w ⟨rfl, rfl⟩
    go_wp2
    go_ret2
    exact ⟨by rw [HN.out, HO.out]; rfl, rfl⟩
theorem numO_in {s : ByteArray} {n : Int} (h : numO s = some n) : Int64 n := by
  unfold numO at h
  split at h
  · cases h; unfold Int64; omega
  · exact (parseL_some h).2
theorem addO_in {a b m : Int} (h : addO a b = some m) : Int64 m ∧ a + b = m := by
  unfold addO at h
  split at h
  · cases h; exact ⟨by assumption, rfl⟩
  · cases h
set_option maxHeartbeats 1000000 in
theorem Incr_any (s : ByteArray) (d : Int) (w : World) (hs : s.size ≤ maxLen) (hd : Int64 d) :
    Calls Tryz.prog 105 #[.string s, .int .i64 d] w fun e w' => e = .returned (incrR s d) ∧ Below w.heap.size w w' := by
  have HN := fun w => number_any s w hs
  cases ho : numO s with
  | none =>
    have HR : Hid (incrR s d = .tuple #[.string ⟨#[]⟩, .int .i64 0, .int .i64 5]) := by show _ = _; unfold incrR; rw [ho]
    rw [ho] at HN
    dsimp only [i64R, Option.getD_none, Option.isSome_none] at HN
    clear ho
    go_enter Tryz.func105, Tryz.ntmps105
    go_wp2_with fail
    refine (HN _).mono ?_
    rintro e w ⟨rfl, rfl⟩
    go_wp2
    go_ret3
    exact ⟨by rw [HR.out]; rfl, Below.refl _ _⟩
  | some n =>
    have hn := numO_in ho
    have HA := fun w => Add_any n d w hn hd
    rw [ho] at HN
    dsimp only [i64R, Option.getD_some, Option.isSome_some] at HN
    cases ha : addO n d with
    | none =>
      have HR : Hid (incrR s d = .tuple #[.string ⟨#[]⟩, .int .i64 0, .int .i64 6]) := by show _ = _; unfold incrR; rw [ho]; simp only [ha]
      rw [ha] at HA
      dsimp only [i64R, Option.getD_none, Option.isSome_none] at HA
      clear ho ha hn
      go_enter Tryz.func105, Tryz.ntmps105
      go_wp2_with fail
      refine (HN _).mono ?_
      rintro e w ⟨rfl, rfl⟩
      go_wp2_with fail
      refine (HA _).mono ?_
      rintro e w ⟨rfl, rfl⟩
      go_wp2
      go_ret3
      exact ⟨by rw [HR.out]; rfl, Below.refl _ _⟩
    | some m =>
      obtain ⟨hm, -⟩ := addO_in ha
      have HF := fun w => Format_any m w hm.1 hm.2
      have HR : Hid (incrR s d = .tuple #[.string (bs (fmtL m)), .int .i64 m, .int .i64 0]) := by show _ = _; unfold incrR; rw [ho]; simp only [ha]
      rw [ha] at HA
      dsimp only [i64R, Option.getD_some, Option.isSome_some] at HA
      generalize bs (fmtL m) = f at HF HR
      clear ho ha hn hm
      go_enter Tryz.func105, Tryz.ntmps105
      go_wp2_with fail
      refine (HN _).mono ?_
      rintro e w ⟨rfl, rfl⟩
      go_wp2_with fail
      refine (HA _).mono ?_
      rintro e w ⟨rfl, rfl⟩
      go_wp2_with fail
      refine (HF _).mono ?_
      rintro e w1 ⟨rfl, hb⟩
      have HB : Hid (Below w.heap.size w w1) := hb
      clear hb
      go_wp2
      go_ret3
      exact ⟨by rw [HR.out]; rfl, HB.out⟩
end Go.Proofs.YtnajhjmdpaeelaaGreatDoor.Tx
