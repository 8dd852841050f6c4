/-
  The bits of a number, read the other way round, and the order of buckets that is made of them; pure.
-/
import Derived.Test.YtejnmikbbnckeaaProg
namespace Go.Proofs.Ytejnmikbbnckeaa

/-- The d lowest bits of c, read the other way round. -/
def rev : Nat → Nat → Nat
  | 0, _ => 0
  | d + 1, c => 2 ^ d * (c % 2) + rev d (c / 2)

theorem rev_lt : ∀ (d c : Nat), rev d c < 2 ^ d
  | 0, _ => by simp [rev]
  | d + 1, c => by
    have h := rev_lt d (c / 2)
    have hp : 2 ^ (d + 1) = 2 * 2 ^ d := by rw [Nat.pow_succ, Nat.mul_comm]
    rw [rev, hp]
    rcases Nat.mod_two_eq_zero_or_one c with e | e <;> rw [e] <;> omega
theorem rev_zero : ∀ d, rev d 0 = 0
  | 0 => rfl
  | d + 1 => by rw [rev]; simp [rev_zero d]

/-- Bit by bit from the other end. -/
theorem rev_low : ∀ (d c : Nat), rev (d + 1) c = 2 * rev d c + c / 2 ^ d % 2
  | 0, c => by simp [rev]
  | d + 1, c => by
    rw [rev, rev_low d (c / 2), rev, Nat.div_div_eq_div_mul]
    have hp : 2 ^ (d + 1) = 2 * 2 ^ d := by rw [Nat.pow_succ, Nat.mul_comm]
    rw [hp, Nat.mul_assoc]
    omega

theorem mod_succ (d c : Nat) : c % 2 ^ (d + 1) = 2 ^ d * (c / 2 ^ d % 2) + c % 2 ^ d := by
  rw [Nat.pow_succ, Nat.mod_mul, Nat.add_comm]

theorem rev_rev : ∀ (d c : Nat), rev d (rev d c) = c % 2 ^ d
  | 0, c => by simp [rev, Nat.mod_one]
  | d + 1, c => by
    rw [rev_low d c, rev, mod_succ, ← rev_rev d c]
    have h1 : (2 * rev d c + c / 2 ^ d % 2) % 2 = c / 2 ^ d % 2 := by omega
    have h2 : (2 * rev d c + c / 2 ^ d % 2) / 2 = rev d c := by omega
    rw [h1, h2]

theorem rev_mod (d c : Nat) : rev d (c % 2 ^ d) = rev d c := by
  rw [← rev_rev d c, rev_rev d (rev d c), Nat.mod_eq_of_lt (rev_lt d c)]

/-- More bits: the lower ones stand ahead. -/
theorem rev_add : ∀ (k j c : Nat), rev (k + j) c = 2 ^ j * rev k c + rev j (c / 2 ^ k)
  | 0, j, c => by simp [rev]
  | k + 1, j, c => by
    rw [Nat.succ_add_eq_add_succ, Nat.add_succ, rev, rev_add k j (c / 2), rev, Nat.mul_add, Nat.div_div_eq_div_mul, Nat.pow_add, ← Nat.add_assoc]
    congr 1
    · rw [Nat.mul_comm (2 ^ k) (2 ^ j), Nat.mul_assoc]
    · rw [Nat.pow_succ, Nat.mul_comm]

theorem rev_inj {d a b : Nat} (ha : a < 2 ^ d) (hb : b < 2 ^ d) (h : rev d a = rev d b) : a = b := by
  have h1 := rev_rev d a
  rw [h, rev_rev, Nat.mod_eq_of_lt ha, Nat.mod_eq_of_lt hb] at h1
  exact h1.symm

/-- The next cursor. -/
def nxt (d c : Nat) : Nat := rev d (rev d c + 1)
theorem nxt_lt (d c : Nat) : nxt d c < 2 ^ d := rev_lt _ _
theorem rev_nxt (d c : Nat) : rev d (nxt d c) = (rev d c + 1) % 2 ^ d := rev_rev _ _
theorem pow_pos (d : Nat) : 0 < 2 ^ d := Nat.pow_pos (by decide)
theorem nxt_last {d c : Nat} (h : rev d c + 1 = 2 ^ d) : nxt d c = 0 := by
  rw [nxt, h, ← rev_mod, Nat.mod_self, rev_zero]
theorem nxt_more {d c : Nat} (h : rev d c + 1 < 2 ^ d) : nxt d c ≠ 0 ∧ rev d (nxt d c) = rev d c + 1 := by
  have h1 := rev_nxt d c
  rw [Nat.mod_eq_of_lt h] at h1
  refine ⟨fun h2 => ?_, h1⟩
  rw [h2, rev_zero] at h1
  omega
theorem nxt_zero {d c : Nat} (h : nxt d c = 0) : rev d c + 1 = 2 ^ d := by
  have h1 := rev_lt d c
  rcases Nat.lt_or_ge (rev d c + 1) (2 ^ d) with h2 | h2
  · exact absurd h (nxt_more h2).1
  · omega
theorem nxt_step {d c : Nat} (h : nxt d c ≠ 0) : rev d (nxt d c) = rev d c + 1 ∧ rev d c + 1 < 2 ^ d := by
  have h1 := rev_lt d c
  rcases Nat.lt_or_ge (rev d c + 1) (2 ^ d) with h2 | h2
  · exact ⟨(nxt_more h2).2, h2⟩
  · exact absurd (nxt_last (by omega)) h
/-- The cursors in their order. -/
theorem nxt_rev {d i : Nat} (h : i < 2 ^ d) : nxt d (rev d i) = rev d (i + 1) := by
  rw [nxt, rev_rev, Nat.mod_eq_of_lt h]
theorem rev_full (d : Nat) : rev d (2 ^ d) = 0 := by rw [← rev_mod, Nat.mod_self, rev_zero]

/-- Is the bucket of h ahead of c? -/
def seen (d c h : Nat) : Bool := decide (rev d h < rev d c)
theorem seen_self (d c : Nat) : seen d c c = false := by simp [seen]
/-- The same bucket. -/
theorem same_rev {d a b : Nat} (hb : b < 2 ^ d) : a % 2 ^ d = b ↔ rev d a = rev d b := by
  constructor
  · rintro rfl
    rw [rev_mod]
  · intro h
    exact rev_inj (Nat.mod_lt _ (pow_pos d)) hb (by rw [rev_mod, h])
theorem seen_in {d c h : Nat} (hc : c < 2 ^ d) (h1 : h % 2 ^ d = c) : seen d c h = false := by
  simp [seen, (same_rev hc).1 h1]
theorem seen_nxt {d c h : Nat} (hc : c < 2 ^ d) (hn : nxt d c ≠ 0) : seen d (nxt d c) h = (seen d c h || decide (h % 2 ^ d = c)) := by
  have h1 := same_rev (a := h) hc
  simp only [seen, (nxt_step hn).1]
  by_cases h2 : h % 2 ^ d = c
  · have := h1.1 h2
    simp [h2, this]
  · have h3 : rev d h ≠ rev d c := fun e => h2 (h1.2 e)
    simp [h2]
    omega
/-- What was seen at a depth is what is seen at each greater one. -/
theorem seen_deep {k m c h : Nat} (hc : c < 2 ^ k) (hm : k ≤ m) : seen k c h = seen m c h := by
  obtain ⟨j, rfl⟩ : ∃ j, m = k + j := ⟨m - k, by omega⟩
  have h1 : rev (k + j) c = 2 ^ j * rev k c := by rw [rev_add, Nat.div_eq_of_lt hc, rev_zero, Nat.add_zero]
  have h2 := rev_add k j h
  have h3 := rev_lt j (h / 2 ^ k)
  simp only [seen, h1, h2]
  generalize rev j (h / 2 ^ k) = t at h3
  generalize rev k h = x
  generalize rev k c = y
  congr 1
  apply propext
  generalize 2 ^ j = p at h3
  constructor
  · intro h4
    have h6 : p * (x + 1) ≤ p * y := Nat.mul_le_mul_left _ h4
    rw [Nat.mul_add, Nat.mul_one] at h6
    omega
  · intro h4
    refine Nat.lt_of_not_le fun h5 => ?_
    have := Nat.mul_le_mul_left p h5
    omega
/-- What is seen ahead of a cursor is seen ahead of the next. -/
theorem seen_on {d c h : Nat} (hn : nxt d c ≠ 0) (hs : seen d c h = true) : seen d (nxt d c) h = true := by
  simp only [seen, (nxt_step hn).1, decide_eq_true_eq] at hs ⊢
  omega
end Go.Proofs.Ytejnmikbbnckeaa
