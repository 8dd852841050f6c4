/-
  Words of eight bytes as rows of numbers below 256; what moving and masking makes of them. Pure.
-/
import Derived.Test.YtejnmikbbnckeaaProg
import Derived.WalkKit
import Derived.WalkSpells
import Derived.PlainAid
import Derived.Laws.BitsAllLaws
namespace Go.Proofs.Ytejnmikbbnckeaa
open Go.RowKit Go.PlainAid

/-- The number that a row of bytes makes, the first one lowest. -/
def val : List Nat → Nat
  | [] => 0
  | b :: l => b + 256 * val l
/-- A row of bytes. -/
def Byt (l : List Nat) : Prop := ∀ b ∈ l, b < 256
/-- Eight bytes. -/
structure Ok (l : List Nat) : Prop where
  len : l.length = 8
  byt : Byt l
/-- The lowest bytes of a number. -/
def digs : Nat → Nat → List Nat
  | 0, _ => []
  | k + 1, n => n % 256 :: digs k (n / 256)

theorem Byt.tail {b : Nat} {l : List Nat} (h : Byt (b :: l)) : Byt l := fun x hx => h x (by simp [hx])
theorem Byt.head {b : Nat} {l : List Nat} (h : Byt (b :: l)) : b < 256 := h b (by simp)
theorem Byt.set {l : List Nat} (h : Byt l) (i : Nat) {b : Nat} (hb : b < 256) : Byt (l.set i b) := by
  intro x hx
  rcases List.mem_or_eq_of_mem_set hx with h1 | rfl
  · exact h x h1
  · exact hb
theorem Byt.get {l : List Nat} (h : Byt l) (i : Nat) : l.getD i 0 < 256 := by
  rw [List.getD_eq_getElem?_getD]
  cases e : l[i]? with
  | none => simp
  | some b => exact h b (List.mem_of_getElem? e)
theorem Ok.set {l : List Nat} (h : Ok l) (i : Nat) {b : Nat} (hb : b < 256) : Ok (l.set i b) := ⟨by simp [h.len], h.byt.set i hb⟩
theorem Ok.get {l : List Nat} (h : Ok l) (i : Nat) : l.getD i 0 < 256 := h.byt.get i

theorem val_lt {l : List Nat} (h : Byt l) : val l < 256 ^ l.length := by
  induction l with
  | nil => simp [val]
  | cons b l ih =>
    have h1 := ih h.tail
    have h2 := h.head
    rw [val, List.length_cons, Nat.pow_succ]
    omega
theorem Ok.lt {l : List Nat} (h : Ok l) : val l < 18446744073709551616 := by
  have := val_lt h.byt
  rw [h.len] at this
  exact this
theorem val_append (p q : List Nat) : val (p ++ q) = val p + 256 ^ p.length * val q := by
  induction p with
  | nil => simp [val]
  | cons b p ih =>
    rw [List.cons_append, val, val, ih, List.length_cons, Nat.pow_succ, Nat.mul_add, Nat.add_assoc, ← Nat.mul_assoc, Nat.mul_comm 256 (256 ^ p.length)]
theorem val_get {l : List Nat} (h : Byt l) : ∀ i, val l / 256 ^ i % 256 = l.getD i 0 := by
  induction l with
  | nil => intro i; simp [val]
  | cons b l ih =>
    intro i
    have h2 := h.head
    cases i with
    | zero => simp [val]; omega
    | succ i =>
      rw [Nat.pow_succ, Nat.mul_comm, ← Nat.div_div_eq_div_mul, show val (b :: l) / 256 = val l by rw [val]; omega, ih h.tail i]
      rfl
theorem val_inj : ∀ {l m : List Nat}, Byt l → Byt m → l.length = m.length → val l = val m → l = m
  | [], [], _, _, _, _ => rfl
  | b :: l, c :: m, hl, hm, hn, hv => by
    have h1 := hl.head
    have h2 := hm.head
    rw [val, val] at hv
    have h3 : b = c := by omega
    have h4 : val l = val m := by omega
    rw [h3, val_inj hl.tail hm.tail (by simpa using hn) h4]
theorem val_digs : ∀ k n, val (digs k n) = n % 256 ^ k
  | 0, n => by simp [digs, val, Nat.mod_one]
  | k + 1, n => by
    rw [digs, val, val_digs k, Nat.pow_succ, Nat.mul_comm (256 ^ k), Nat.mod_mul]
theorem digs_len : ∀ k n, (digs k n).length = k
  | 0, _ => rfl
  | k + 1, n => by rw [digs, List.length_cons, digs_len k]
theorem digs_byt : ∀ k n, Byt (digs k n)
  | 0, _ => fun b hb => by simp [digs] at hb
  | k + 1, n => by
    intro b hb
    rw [digs, List.mem_cons] at hb
    rcases hb with rfl | hb
    · exact Nat.mod_lt _ (by decide)
    · exact digs_byt k _ b hb
/-- Every word has its bytes. -/
theorem word_ex (n : Nat) (h : n < 18446744073709551616) : ∃ l, Ok l ∧ val l = n :=
  ⟨digs 8 n, ⟨digs_len _ _, digs_byt _ _⟩, by rw [val_digs]; exact Nat.mod_eq_of_lt h⟩
theorem Ok.inj {l m : List Nat} (h : Ok l) (h' : Ok m) (hv : val l = val m) : l = m := val_inj h.byt h'.byt (by rw [h.len, h'.len]) hv

theorem bit_mask (k j : Nat) (hk : k + 8 ≤ 64) : (18446744073709551615 - 255 * 2 ^ k).testBit j = (decide (j < 64) && !(decide (k ≤ j) && decide (j - k < 8))) := by
  have h1 : 255 * 2 ^ k < 2 ^ 64 := by
    have : 2 ^ k ≤ 2 ^ 56 := Nat.pow_le_pow_right (by decide) (by omega)
    omega
  have h2 : 18446744073709551615 - 255 * 2 ^ k = 2 ^ 64 - (255 * 2 ^ k + 1) := by omega
  rw [h2, Nat.testBit_two_pow_sub_succ h1, Nat.testBit_mul_two_pow, show (255 : Nat) = 2 ^ 8 - 1 from rfl, Nat.testBit_two_pow_sub_one]

/-- A byte that is masked out of a number, and another one that is laid there. -/
theorem mask_join (A x C b k : Nat) (hA : A < 2 ^ k) (hx : x < 256) (hb : b < 256) (hk : k + 8 ≤ 64) (hn : A + 2 ^ k * (x + 256 * C) < 2 ^ 64) :
    ((A + 2 ^ k * (x + 256 * C)) &&& (18446744073709551615 - 255 * 2 ^ k)) ||| (b * 2 ^ k) = A + 2 ^ k * (b + 256 * C) := by
  apply Nat.eq_of_testBit_eq
  intro j
  have e : ∀ y, A + 2 ^ k * (y + 256 * C) = 2 ^ k * (2 ^ 8 * C + y) + A := fun y => by rw [Nat.add_comm y, Nat.add_comm A]
  have hx' : x < 2 ^ 8 := hx
  have hb' : b < 2 ^ 8 := hb
  have hbig : 64 ≤ j → (A + 2 ^ k * (x + 256 * C)).testBit j = false := fun h => Nat.testBit_lt_two_pow (Nat.lt_of_lt_of_le hn (Nat.pow_le_pow_right (by decide) h))
  rw [Nat.testBit_or, Nat.testBit_and, bit_mask k j hk, Nat.testBit_mul_two_pow]
  rw [e] at hbig ⊢
  rw [e, Nat.testBit_two_pow_mul_add _ hA, Nat.testBit_two_pow_mul_add _ hA] at *
  rw [Nat.testBit_two_pow_mul_add _ hx', Nat.testBit_two_pow_mul_add _ hb'] at *
  by_cases h1 : j < k
  · have h2 : ¬ k ≤ j := by omega
    have h3 : j < 64 := by omega
    simp [h1, h2, h3]
  · have h2 : k ≤ j := by omega
    by_cases h4 : j - k < 8
    · simp [h1, h2, h4]
    · by_cases h5 : j < 64
      · have h6 : b.testBit (j - k) = false := Nat.testBit_lt_two_pow (Nat.lt_of_lt_of_le hb' (Nat.pow_le_pow_right (by decide) (by omega)))
        simp [h1, h2, h4, h5, h6]
      · have h6 : b.testBit (j - k) = false := Nat.testBit_lt_two_pow (Nat.lt_of_lt_of_le hb' (Nat.pow_le_pow_right (by decide) (by omega)))
        have h7 := hbig (by omega)
        simp only [h1, h4, if_false] at h7
        simp [h1, h2, h4, h5, h6, h7]

theorem val_split {l : List Nat} {i : Nat} (hi : i < l.length) (b : Nat) : val (l.set i b) = val (l.take i) + 2 ^ (8 * i) * (b + 256 * val (l.drop (i + 1))) := by
  rw [List.set_eq_take_append_cons_drop, if_pos hi, val_append, val, List.length_take, Nat.min_eq_left (by omega), show (256 : Nat) = 2 ^ 8 from rfl, ← Nat.pow_mul]
theorem val_set {l : List Nat} (h : Ok l) {i : Nat} (hi : i < 8) {b : Nat} (hb : b < 256) :
    (val l &&& (18446744073709551615 - 255 * 2 ^ (8 * i))) ||| (b * 2 ^ (8 * i)) = val (l.set i b) := by
  have hi' : i < l.length := by rw [h.len]; exact hi
  have h1 : l = l.set i l[i] := by simp
  have h2 := val_split hi' l[i]
  rw [← h1] at h2
  have h3 : val (l.take i) < 2 ^ (8 * i) := by
    have := val_lt (l := l.take i) (fun x hx => h.byt x (List.mem_of_mem_take hx))
    rw [List.length_take, Nat.min_eq_left (by omega), show (256 : Nat) = 2 ^ 8 from rfl, ← Nat.pow_mul] at this
    exact this
  have h4 := h.lt
  rw [h2] at h4
  rw [h2, val_split hi' b]
  exact mask_join _ _ _ _ _ h3 (h.byt _ (List.getElem_mem _)) hb (by omega) h4
end Go.Proofs.Ytejnmikbbnckeaa
