/-
  The program's clamp and turn, the document's deep and Turned, over every number.
-/
import Derived.Test.YtejnmikbbnckeaaLow
namespace Go.Proofs.Ytejnmikbbnckeaa
open Go.RowKit Go.PlainAid

/-- A depth that may be. -/
def dep (d : Int) : Nat := min d.toNat 16
theorem dep_le (d : Int) : dep d ≤ 16 := Nat.min_le_right _ _
theorem dep_nat {k : Nat} (h : k ≤ 16) : dep (k : Int) = k := by unfold dep; omega
theorem dep_cases (d : Int) : (d < 0 ∧ dep d = 0) ∨ (16 < d ∧ dep d = 16) ∨ (0 ≤ d ∧ d ≤ 16 ∧ d = (dep d : Nat)) := by unfold dep; omega

theorem clamp_any (d : Int) (w : World) (h0 : -9223372036854775808 ≤ d) (h1 : d ≤ 9223372036854775807) :
    Calls Try.prog 73 #[.int .i64 d] w fun e w' => e = .returned (.int .i64 (dep d : Nat)) ∧ w' = w := by
  obtain ⟨z, hz⟩ : ∃ z : Int, ((dep d : Nat) : Int) = z := ⟨_, rfl⟩
  rw [hz]
  rcases dep_cases d with ⟨h, e⟩ | ⟨h, e⟩ | ⟨h, h2, e⟩
  · obtain rfl : z = 0 := by omega
    clear hz e
    go_enter Try.func73, Try.ntmps73
    go_wp2
    go_ret
    exact ⟨rfl, rfl⟩
  · obtain rfl : z = 16 := by omega
    clear hz e
    go_enter Try.func73, Try.ntmps73
    go_wp2
    go_ret
    exact ⟨rfl, rfl⟩
  · obtain rfl : z = d := by omega
    clear hz e
    go_enter Try.func73, Try.ntmps73
    go_wp2
    go_ret
    exact ⟨rfl, rfl⟩

theorem or_bit (t b : Nat) (hb : b < 2) : 2 * t ||| b = 2 * t + b := (Nat.two_pow_add_eq_or_of_lt (i := 1) (by omega) t).symm
theorem wrap_two (t : Nat) (ht : t < 65536) : IntKind.u64.wrap ((t : Int) * 2) = ((2 * t : Nat) : Int) := by
  simp [IntKind.wrap, IntKind.signed, IntKind.bits]
  omega
theorem step_bit (t n : Nat) (ht : t < 65536) (hn : n < 18446744073709551616) :
    bits .or .u64 (IntKind.u64.wrap ((t : Int) * 2)) (bits .and .u64 (n : Int) 1) = ((2 * t + n % 2 : Nat) : Int) := by
  have h1 : bits .and .u64 (n : Int) 1 = ((n % 2 : Nat) : Int) := by
    have := u64_and_nat n 1 hn (by decide)
    rw [Nat.and_one_is_mod] at this
    exact this
  rw [h1, wrap_two t ht, u64_or_nat _ _ (by omega) (by omega), or_bit t _ (by omega)]
/-- One bit more. -/
theorem rev_step {g t n R : Nat} (h : 2 ^ (g + 1) * t + rev (g + 1) n = R) : 2 ^ g * (2 * t + n % 2) + rev g (n / 2) = R := by
  rw [← h, rev, Nat.pow_succ, Nat.mul_add, Nat.mul_assoc, Nat.add_assoc]
theorem acc_lt {g t n R d : Nat} (h : 2 ^ g * t + rev g n = R) (hR : R < 2 ^ d) (hd : 2 ^ d ≤ 65536) : t < 65536 := by
  have := Nat.mul_le_mul_right t (pow_pos g)
  omega

theorem turn_any (c d : Nat) (w : World) (hc : c < 18446744073709551616) (hd : d ≤ 16) :
    Calls Try.prog 74 #[.int .u64 c, .int .i64 d] w fun e w' => e = .returned (.int .u64 (rev d c : Nat)) ∧ w' = w := by
  have HD : Hid (2 ^ d ≤ 65536) := pow_le_16 hd
  have HR : Hid (rev d c < 2 ^ d) := rev_lt d c
  obtain ⟨R, hR⟩ : ∃ R, rev d c = R := ⟨_, rfl⟩
  rw [hR] at HR ⊢
  have H0 : Hid (2 ^ d * 0 + rev d c = R) := by show _ = _; omega
  clear hR
  go_enter Try.func74, Try.ntmps74
  go_wp2
  go_loopg [0, 5, 7] d (fun g nv tv iv wr => w = wr ∧ ∃ k n t : Nat, k + g = d ∧ nv = .int .u64 n ∧ tv = .int .u64 t ∧ iv = .int .i64 k ∧ n < 18446744073709551616 ∧ Hid (2 ^ g * t + rev g n = R))
  case atStart => exact ⟨rfl, 0, c, 0, by omega, rfl, rfl, rfl, hc, H0⟩
  case round =>
    obtain ⟨rfl, k, n, t, hk, rfl, rfl, rfl, hn, H⟩ := hrel
    clear H0
    by_cases hlt : k < d
    · obtain ⟨g, rfl⟩ : ∃ g, gk = g + 1 := ⟨gk - 1, by omega⟩
      have hb := step_bit t n (acc_lt H.out HR.out HD.out) hn
      have HN : Hid (2 ^ g * (2 * t + n % 2) + rev g (n / 2) = R) := rev_step H.out
      generalize 2 * t + n % 2 = t2 at hb HN
      obtain ⟨n2, hn2⟩ : ∃ n2, n / 2 = n2 := ⟨_, rfl⟩
      rw [hn2] at HN
      have hn3 : (n : Int) / 2 = n2 := by omega
      have hn4 : n2 < 18446744073709551616 := by omega
      clear hn2 H
      go_wp2
      go_roundg g
      case measure => omega
      case rel => exact ⟨rfl, k + 1, n2, t2, by omega, rfl, rfl, by go_num, hn4, HN⟩
    · obtain rfl : gk = 0 := by omega
      have HE : Hid (t = R) := by
        have := H.out
        show t = R
        simpa [rev] using this
      go_wp2
      go_ret
      exact ⟨by rw [HE.out]; rfl, rfl⟩

theorem deep_any (d : Int) (w : World) (h0 : -9223372036854775808 ≤ d) (h1 : d ≤ 9223372036854775807) :
    Calls Try.prog 56 #[.int .i64 d] w fun e w' => e = .returned (.int .i64 (dep d : Nat)) ∧ w' = w := by
  obtain ⟨z, hz⟩ : ∃ z : Int, ((dep d : Nat) : Int) = z := ⟨_, rfl⟩
  rw [hz]
  rcases dep_cases d with ⟨h, e⟩ | ⟨h, e⟩ | ⟨h, h2, e⟩
  · obtain rfl : z = 0 := by omega
    clear hz e
    go_enter Try.func56, Try.ntmps56
    go_wp2
    go_ret
    exact ⟨rfl, rfl⟩
  · obtain rfl : z = 16 := by omega
    clear hz e
    go_enter Try.func56, Try.ntmps56
    go_wp2
    go_ret
    exact ⟨rfl, rfl⟩
  · obtain rfl : z = d := by omega
    clear hz e
    go_enter Try.func56, Try.ntmps56
    go_wp2
    go_ret
    exact ⟨rfl, rfl⟩

theorem Turned_any (c d : Nat) (w : World) (hc : c < 18446744073709551616) (hd : d ≤ 16) :
    Calls Try.prog 57 #[.int .u64 c, .int .i64 d] w fun e w' => e = .returned (.int .u64 (rev d c : Nat)) ∧ w' = w := by
  have HD : Hid (2 ^ d ≤ 65536) := pow_le_16 hd
  have HR : Hid (rev d c < 2 ^ d) := rev_lt d c
  obtain ⟨R, hR⟩ : ∃ R, rev d c = R := ⟨_, rfl⟩
  rw [hR] at HR ⊢
  have H0 : Hid (2 ^ d * 0 + rev d (c / 2 ^ 0) = R) := by show _ = _; simpa using hR
  clear hR
  go_enter Try.func57, Try.ntmps57
  go_wp2
  go_loopg [5, 6] d (fun g tv iv wr => w = wr ∧ ∃ k t : Nat, k + g = d ∧ tv = .int .u64 t ∧ iv = .int .i64 k ∧ Hid (2 ^ g * t + rev g (c / 2 ^ k) = R))
  case atStart => exact ⟨rfl, 0, 0, by omega, rfl, rfl, H0⟩
  case round =>
    obtain ⟨rfl, k, t, hk, rfl, rfl, H⟩ := hrel
    clear H0
    by_cases hlt : k < d
    · obtain ⟨g, rfl⟩ : ∃ g, gk = g + 1 := ⟨gk - 1, by omega⟩
      have HN : Hid (2 ^ g * (2 * t + c / 2 ^ k % 2) + rev g (c / 2 ^ (k + 1)) = R) := by
        have := rev_step H.out
        rw [Nat.div_div_eq_div_mul, ← Nat.pow_succ] at this
        exact this
      obtain ⟨q, hq⟩ : ∃ q, c / 2 ^ k = q := ⟨_, rfl⟩
      have hq2 : q < 18446744073709551616 := by rw [← hq]; exact Nat.lt_of_le_of_lt (Nat.div_le_self _ _) hc
      have hb := step_bit t q (acc_lt H.out HR.out HD.out) hq2
      rw [hq] at HN
      have hq3 : (c : Int) / 2 ^ k = q := by rw [← hq]; simp
      generalize 2 * t + q % 2 = t2 at hb HN
      clear hq H
      go_wp2
      go_roundg g
      case measure => omega
      case rel => exact ⟨rfl, k + 1, t2, by omega, rfl, by go_num, HN⟩
    · obtain rfl : gk = 0 := by omega
      have HE : Hid (t = R) := by
        have := H.out
        show t = R
        simpa [rev] using this
      go_wp2
      go_ret
      exact ⟨by rw [HE.out]; rfl, rfl⟩
end Go.Proofs.Ytejnmikbbnckeaa
