/-
  Spans of bytes, bits of a text: pure.
-/
import Derived.Test.YtjikfpdlbjjmbaaMem
import Derived.Test.YtjikfpdlbjjmbaaSums
import Derived.Lib.BitFns
namespace Go.Proofs.Ytjikfpdlbjjmbaa
open Go.RowKit Go.PlainAid

/-- A place, counted from the end if it is below 0. -/
def fs (n : Nat) (i : Int) : Int := if i < 0 then i + n else i
def spA (n : Nat) (a : Int) : Int := max (fs n a) 0
def spB (n : Nat) (b : Int) : Int := min (fs n b) ((n : Int) - 1)
/-- The span a to b of a text. -/
def spanB (s : ByteArray) (a b : Int) : ByteArray := if spB s.size b < spA s.size a then ⟨#[]⟩ else s.extract (spA s.size a).toNat (spB s.size b + 1).toNat

theorem size_spanB (s : ByteArray) (a b : Int) : (spanB s a b).size ≤ s.size := by
  unfold spanB
  split
  · exact Nat.zero_le _
  · simp; omega

/-- The bits of a byte, of a row of bytes. -/
abbrev pop (n : Nat) : Nat := Lib.onesCount n
def popL (l : List UInt8) : Nat := (l.map fun b => pop b.toNat).sum

theorem pop_step (c : Nat) (h : c < 256) : pop c = c % 2 + pop (c / 2) := by
  have : ∀ n : Fin 256, pop n.val = n.val % 2 + pop (n.val / 2) := by decide +kernel
  exact this ⟨c, h⟩
theorem pop_le (c : Nat) (h : c < 256) : pop c ≤ 8 := Lib.onesCount_le8 ⟨c, h⟩
theorem popL_append (l r : List UInt8) : popL (l ++ r) = popL l + popL r := by simp [popL]
theorem popL_cons (b : UInt8) (l : List UInt8) : popL (b :: l) = pop b.toNat + popL l := by simp [popL]
theorem popL_le (l : List UInt8) : popL l ≤ 8 * l.length := by
  induction l with
  | nil => simp [popL]
  | cons b l ih =>
    rw [popL_cons, List.length_cons]
    have := pop_le b.toNat b.toNat_lt
    omega
theorem popL_take (l : List UInt8) (k : Nat) (h : k < l.length) : popL (l.take (k + 1)) = popL (l.take k) + pop (l.getD k 0).toNat := by
  rw [List.take_add_one, popL_append, List.getElem?_eq_getElem h, Option.toList_some, popL_cons, List.getD_eq_getElem?_getD, List.getElem?_eq_getElem h]
  simp [popL]

/-- Bit j of a byte, and a byte with it turned. -/
def bitN (x j : Nat) : Nat := x / 2 ^ j % 2
def setN (x j b : Nat) : Nat := if b = 1 then x ||| 2 ^ j else x &&& (255 - 2 ^ j)
theorem bitN_le (x j : Nat) : bitN x j ≤ 1 := by unfold bitN; omega

theorem bit_facts : ∀ x : Fin 256, ∀ j : Fin 8, ((x.val &&& 2 ^ j.val = 0) ↔ bitN x.val j.val = 0) ∧ (x.val ||| 2 ^ j.val) < 256 ∧ (x.val &&& (255 - 2 ^ j.val)) < 256 ∧ ((x.val &&& (255 - 2 ^ j.val)) ||| 2 ^ j.val) = (x.val ||| 2 ^ j.val) := by decide +kernel
theorem set_facts : ∀ x : Fin 256, ∀ j : Fin 8, ∀ b : Fin 2, bitN (setN x.val j.val b.val) j.val = b.val ∧ setN (setN x.val j.val b.val) j.val (bitN x.val j.val) = x.val ∧ pop (setN x.val j.val b.val) + bitN x.val j.val = pop x.val + b.val := by decide +kernel
theorem other_facts : ∀ x : Fin 256, ∀ j : Fin 8, ∀ i : Fin 8, i ≠ j → bitN (x.val ||| 2 ^ j.val) i.val = bitN x.val i.val ∧ bitN (x.val &&& (255 - 2 ^ j.val)) i.val = bitN x.val i.val := by decide +kernel

theorem and_zero (x j : Nat) (hx : x < 256) (hj : j < 8) : (x &&& 2 ^ j = 0) ↔ bitN x j = 0 := (bit_facts ⟨x, hx⟩ ⟨j, hj⟩).1
theorem setN_lt (x j b : Nat) (hx : x < 256) (hj : j < 8) : setN x j b < 256 := by
  have := bit_facts ⟨x, hx⟩ ⟨j, hj⟩
  unfold setN; split
  · exact this.2.1
  · exact this.2.2.1
theorem or_of_andNot (x j : Nat) (hx : x < 256) (hj : j < 8) : ((x &&& (255 - 2 ^ j)) ||| 2 ^ j) = (x ||| 2 ^ j) := (bit_facts ⟨x, hx⟩ ⟨j, hj⟩).2.2.2
theorem bit_set (x j b : Nat) (hx : x < 256) (hj : j < 8) (hb : b < 2) : bitN (setN x j b) j = b := (set_facts ⟨x, hx⟩ ⟨j, hj⟩ ⟨b, hb⟩).1
theorem set_back (x j b : Nat) (hx : x < 256) (hj : j < 8) (hb : b < 2) : setN (setN x j b) j (bitN x j) = x := (set_facts ⟨x, hx⟩ ⟨j, hj⟩ ⟨b, hb⟩).2.1
theorem pop_set (x j b : Nat) (hx : x < 256) (hj : j < 8) (hb : b < 2) : pop (setN x j b) + bitN x j = pop x + b := (set_facts ⟨x, hx⟩ ⟨j, hj⟩ ⟨b, hb⟩).2.2
theorem bit_other (x j i b : Nat) (hx : x < 256) (hj : j < 8) (hi : i < 8) (hne : i ≠ j) : bitN (setN x j b) i = bitN x i := by
  have := other_facts ⟨x, hx⟩ ⟨j, hj⟩ ⟨i, hi⟩ (fun e => hne (congrArg Fin.val e))
  unfold setN; split
  · exact this.1
  · exact this.2
theorem pow_lt8 (j : Nat) (h : j < 8) : 2 ^ j < 256 ∧ 0 < 2 ^ j := by
  have : ∀ j : Fin 8, 2 ^ j.val < 256 ∧ 0 < 2 ^ j.val := by decide
  exact this ⟨j, h⟩

/-- A row of bytes, with zero bytes up to n. -/
def ext (l : List UInt8) (n : Nat) : List UInt8 := l ++ List.replicate (n - l.length) 0
theorem ext_len (l : List UInt8) (n : Nat) : (ext l n).length = max l.length n := by simp [ext]; omega
theorem ext_self (l : List UInt8) (n : Nat) (h : n ≤ l.length) : ext l n = l := by
  unfold ext; rw [Nat.sub_eq_zero_of_le h]; simp
theorem ext_getD (l : List UInt8) (n k : Nat) : (ext l n).getD k 0 = l.getD k 0 := by
  unfold ext
  rw [List.getD_eq_getElem?_getD, List.getD_eq_getElem?_getD]
  by_cases h : k < l.length
  · rw [List.getElem?_append_left h]
  · rw [List.getElem?_append_right (by omega), List.getElem?_replicate, List.getElem?_eq_none (l := l) (by omega)]
    split <;> rfl
theorem popL_ext (l : List UInt8) (n : Nat) : popL (ext l n) = popL l := by
  unfold ext
  rw [popL_append]
  have : ∀ m, popL (List.replicate m 0) = 0 := by
    intro m
    induction m with
    | zero => rfl
    | succ m ih => rw [List.replicate_succ, popL_cons, ih]; rfl
  rw [this]; omega
/-- A row of bytes with others laid over it. -/
def over (l : List UInt8) (o : Nat) (r : List UInt8) : List UInt8 := l.take o ++ r ++ l.drop (o + r.length)

def byteAt (s : ByteArray) (k : Nat) : Nat := ((lst s).getD k 0).toNat
theorem byteAt_lt (s : ByteArray) (k : Nat) : byteAt s k < 256 := ((lst s).getD k 0).toNat_lt
theorem byteAt_in (s : ByteArray) (k : Nat) (h : k < s.size) : byteAt s k = (s[k]'h).toNat := by
  unfold byteAt
  rw [List.getD_eq_getElem?_getD, List.getElem?_eq_getElem (by simpa [lst] using h)]
  rfl
theorem byteAt_out (s : ByteArray) (k : Nat) (h : s.size ≤ k) : byteAt s k = 0 := by
  unfold byteAt
  rw [List.getD_eq_getElem?_getD, List.getElem?_eq_none (by simpa [lst] using h)]; rfl

/-- What Bit tells. -/
def bitB (s : ByteArray) (i : Int) : Nat := if i < 0 then 0 else bitN (byteAt s (i.toNat / 8)) (7 - i.toNat % 8)
theorem bitN_zero (j : Nat) : bitN 0 j = 0 := by unfold bitN; simp
theorem bitB_out (s : ByteArray) (i : Int) (h : (s.size : Int) ≤ i / 8) : bitB s i = 0 := by
  unfold bitB
  split
  · rfl
  · rw [byteAt_out _ _ (by omega), bitN_zero]

/-- A text with bit k made b. -/
def setBitB (s : ByteArray) (k b : Nat) : ByteArray := bs ((ext (lst s) (k / 8 + 1)).set (k / 8) (UInt8.ofNat (setN (byteAt s (k / 8)) (7 - k % 8) b)))
/-- What SetBit answers. -/
def setBitR (s : ByteArray) (i b : Int) : Value :=
  if 0 ≤ i ∧ i < 524288 ∧ 0 ≤ b ∧ b ≤ 1 then .tuple #[.string (setBitB s i.toNat b.toNat), .int .i64 (bitB s i : Nat), .int .i64 0]
  else .tuple #[.string ⟨#[]⟩, .int .i64 0, .int .i64 10]

/-- What SetRange answers. -/
def setRangeB (s : ByteArray) (k : Nat) (t : ByteArray) : ByteArray := bs (over (ext (lst s) (k + t.size)) k (lst t))
def setRangeR (s : ByteArray) (i : Int) (t : ByteArray) : Value :=
  if i < 0 then .tuple #[.string ⟨#[]⟩, .int .i64 25]
  else if t.size = 0 then .tuple #[.string s, .int .i64 0]
  else if i + t.size ≤ 65536 then .tuple #[.string (setRangeB s i.toNat t), .int .i64 0]
  else .tuple #[.string ⟨#[]⟩, .int .i64 11]

/-- What Incr answers. -/
def numO (s : ByteArray) : Option Int := if s.size = 0 then some 0 else parseL (lst s)
def incrR (s : ByteArray) (by_ : Int) : Value :=
  match numO s with
  | none => .tuple #[.string ⟨#[]⟩, .int .i64 0, .int .i64 5]
  | some n => match addO n by_ with
    | none => .tuple #[.string ⟨#[]⟩, .int .i64 0, .int .i64 6]
    | some m => .tuple #[.string (bs (fmtL m)), .int .i64 m, .int .i64 0]
end Go.Proofs.Ytjikfpdlbjjmbaa
