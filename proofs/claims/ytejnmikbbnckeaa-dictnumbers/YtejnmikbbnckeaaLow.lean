/-
  The lowest bits of a number: the program's Low and the document's own, over every number.
-/
import Derived.Test.YtejnmikbbnckeaaRev
import Derived.WalkKit
import Derived.WalkSpells
import Derived.PlainAid
import Derived.Laws.BitsAllLaws
import Derived.Laws.IdiomStrings
import Derived.Deep.LoopGhost
import Derived.Deep.Cut
import Derived.Lib.IndexBytes
import Derived.Elder7
namespace Go.Proofs.Ytejnmikbbnckeaa
open Go.RowKit Go.PlainAid

/-- The lowest bits of a number, at most sixteen. -/
def lowM (h : Nat) (b : Int) : Nat := h % 2 ^ (min b.toNat 16)

theorem and_low (h k : Nat) (hh : h < 18446744073709551616) (hk : k ≤ 16) : bits .and .u64 (h : Int) ((2 ^ k - 1 : Nat) : Int) = ((h % 2 ^ k : Nat) : Int) := by
  rw [u64_and_nat h (2 ^ k - 1) hh, Nat.and_two_pow_sub_one_eq_mod]
  have : 2 ^ k ≤ 2 ^ 16 := Nat.pow_le_pow_right (by decide) hk
  omega

theorem pow_le_16 {k : Nat} (h : k ≤ 16) : 2 ^ k ≤ 65536 := Nat.pow_le_pow_right (n := 2) (j := 16) (by decide) h
theorem wrap_pow (k : Nat) (h : k ≤ 16) : IntKind.u64.wrap (2 ^ k) = ((2 ^ k : Nat) : Int) := by
  have h1 := pow_le_16 h
  have : ((2 : Int) ^ k) = ((2 ^ k : Nat) : Int) := by simp
  rw [this]
  generalize 2 ^ k = p at h1
  simp [IntKind.wrap, IntKind.signed, IntKind.bits]
  omega
theorem wrap_pred (k : Nat) (h : k ≤ 16) : IntKind.u64.wrap (((2 ^ k : Nat) : Int) - 1) = ((2 ^ k - 1 : Nat) : Int) := by
  have h1 := pow_le_16 h
  have h2 : 0 < 2 ^ k := Nat.pow_pos (by decide)
  generalize 2 ^ k = p at h1 h2
  simp [IntKind.wrap, IntKind.signed, IntKind.bits]
  omega

theorem Low_any (h : Nat) (b : Int) (w : World) (hh : h < 18446744073709551616) (hb : b < 9223372036854775808) (hb' : -9223372036854775808 ≤ b) :
    Calls Try.prog 55 #[.int .u64 h, .int .i64 b] w fun e w' => e = .returned (.int .u64 (lowM h b : Nat)) ∧ w' = w := by
  obtain ⟨k, hk⟩ : ∃ k, min b.toNat 16 = k := ⟨_, rfl⟩
  have h16 : k ≤ 16 := by omega
  have hL : lowM h b = h % 2 ^ k := by rw [lowM, hk]
  rw [hL]
  clear hL
  have ha := and_low h k hh h16
  have hw1 := wrap_pow k h16
  have hw2 := wrap_pred k h16
  generalize h % 2 ^ k = z at ha ⊢
  by_cases h0 : b < 0
  · obtain rfl : k = 0 := by omega
    replace ha : bits .and .u64 (h : Int) 0 = z := ha
    clear hw1 hw2
    go_enter Try.func55, Try.ntmps55
    go_wp2
    go_ret
    exact ⟨rfl, rfl⟩
  by_cases h1 : 16 < b
  · obtain rfl : k = 16 := by omega
    replace ha : bits .and .u64 (h : Int) 65535 = z := ha
    clear hw1 hw2
    go_enter Try.func55, Try.ntmps55
    go_wp2
    go_ret
    exact ⟨rfl, rfl⟩
  obtain rfl : b = k := by omega
  obtain ⟨p, hp⟩ : ∃ p : Int, ((2 ^ k : Nat) : Int) = p := ⟨_, rfl⟩
  obtain ⟨q, hq⟩ : ∃ q : Int, ((2 ^ k - 1 : Nat) : Int) = q := ⟨_, rfl⟩
  rw [hp] at hw1 hw2
  rw [hq] at hw2 ha
  clear hp hq
  go_enter Try.func55, Try.ntmps55
  go_wp2
  go_ret
  exact ⟨rfl, rfl⟩

theorem refLow_any (h : Nat) (b : Int) (w : World) (hh : h < 18446744073709551616) (hb : b < 9223372036854775808) (hb' : -9223372036854775808 ≤ b) :
    Calls Try.prog 21 #[.int .u64 h, .int .i64 b] w fun e w' => e = .returned (.int .u64 (lowM h b : Nat)) ∧ w' = w := by
  obtain ⟨k, hk⟩ : ∃ k, min b.toNat 16 = k := ⟨_, rfl⟩
  have h16 : k ≤ 16 := by omega
  have hL : lowM h b = h % 2 ^ k := by rw [lowM, hk]
  rw [hL]
  clear hL
  have ha := and_low h k hh h16
  have hw1 := wrap_pow k h16
  have hw2 := wrap_pred k h16
  generalize h % 2 ^ k = z at ha ⊢
  by_cases h0 : b < 0
  · obtain rfl : k = 0 := by omega
    replace ha : bits .and .u64 (h : Int) 0 = z := ha
    clear hw1 hw2
    go_enter Try.func21, Try.ntmps21
    go_wp2
    go_ret
    exact ⟨rfl, rfl⟩
  by_cases h1 : 16 < b
  · obtain rfl : k = 16 := by omega
    replace ha : bits .and .u64 (h : Int) 65535 = z := ha
    clear hw1 hw2
    go_enter Try.func21, Try.ntmps21
    go_wp2
    go_ret
    exact ⟨rfl, rfl⟩
  obtain rfl : b = k := by omega
  obtain ⟨p, hp⟩ : ∃ p : Int, ((2 ^ k : Nat) : Int) = p := ⟨_, rfl⟩
  obtain ⟨q, hq⟩ : ∃ q : Int, ((2 ^ k - 1 : Nat) : Int) = q := ⟨_, rfl⟩
  rw [hp] at hw1 hw2
  rw [hq] at hw2 ha
  clear hp hq
  go_enter Try.func21, Try.ntmps21
  go_wp2
  go_ret
  exact ⟨rfl, rfl⟩

end Go.Proofs.Ytejnmikbbnckeaa
