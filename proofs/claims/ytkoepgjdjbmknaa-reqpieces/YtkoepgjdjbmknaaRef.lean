/-
  The document's own Cursor, Parse and Add; Add and Negate; the laws' helpers.
-/
import Derived.Test.YtkoepgjdjbmknaaWrite
namespace Go.Proofs.Ytkoepgjdjbmknaa
open Go.RowKit Go.PlainAid

set_option maxHeartbeats 1000000 in
theorem refCursor_any (s : ByteArray) (w : World) (hs : s.size ≤ maxLen) (o : Option Nat) (ho : cursorL (lst s) = o) :
    Calls Try.prog 51 #[.string s] w fun e w' => e = .returned (u64R o) ∧ w' = w := by
  unfold maxLen at hs
  by_cases h1 : s.size < 1
  · have HN : Hid (none = o) := by
      have hl : lst s = [] := List.length_eq_zero_iff.1 (by rw [Array.length_toList]; show s.size = 0; omega)
      show none = o
      rw [← ho, hl]; rfl
    clear ho
    go_enter Try.func51, Try.ntmps51
    go_wp2
    go_ret2
    exact ⟨by rw [← HN.out]; rfl, rfl⟩
  by_cases h20 : 20 < s.size
  · have HN : Hid (none = o) := by
      show none = o
      rw [← ho, cursorL, if_pos (by simpa using h20)]
    clear ho
    go_enter Try.func51, Try.ntmps51
    go_wp2
    go_ret2
    exact ⟨by rw [← HN.out]; rfl, rfl⟩
  have HO : Hid (rd 0 (lst s) = o) := by
    show rd 0 _ = _
    rw [← ho, cursorL, if_neg (by simpa using h20), digitsL, if_neg]
    intro e
    have : (lst s).length = 0 := by rw [e]; rfl
    rw [Array.length_toList] at this
    have : s.size = 0 := this
    omega
  clear ho
  go_enter Try.func51, Try.ntmps51
  go_wp2
  go_loopg [4, 5] s.size (fun g nv i wr => w = wr ∧ ∃ k n : Nat, k + g = s.size ∧ i = .int .i64 k ∧ nv = .int .u64 n ∧ n < 18446744073709551616 ∧ Hid (rd n ((lst s).drop k) = o))
  case atStart => exact ⟨rfl, 0, 0, by omega, rfl, rfl, by omega, HO⟩
  case round =>
    obtain ⟨rfl, k, n, hk, rfl, rfl, hn, H⟩ := hrel
    have HK : Hid (k + gk = s.size) := hk
    clear hk HO
    by_cases hlt : k < s.size
    · have HD : Hid ((lst s).drop k = s[k] :: (lst s).drop (k + 1)) := drop_at s k hlt
      obtain ⟨c, hc⟩ : ∃ c : Int, ((s[k]'hlt).toNat : Int) = c := ⟨_, rfl⟩
      have hc0 : 0 ≤ c ∧ c ≤ 255 := by have := (s[k]'hlt).toNat_lt; omega
      have HC : Hid (((s[k]'hlt).toNat : Int) = c) := hc
      by_cases h1 : c < 48
      · have HN : Hid (none = o) := (rd_bad HD.out HC.out (by omega)).symm.trans H.out
        go_wp2
        go_ret2
        exact ⟨by rw [← HN.out]; rfl, rfl⟩
      by_cases h2 : 57 < c
      · have HN : Hid (none = o) := (rd_bad HD.out HC.out (by omega)).symm.trans H.out
        go_wp2
        go_ret2
        exact ⟨by rw [← HN.out]; rfl, rfl⟩
      by_cases h3 : (n : Int) * 10 + (c - 48) < 18446744073709551616
      · have HN : Hid (rd ((n : Int) * 10 + (c - 48)).toNat ((lst s).drop (k + 1)) = o) := (rd_good HD.out HC.out (by omega) (by omega) h3).symm.trans H.out
        have hq : ¬ (18446744073709551615 - (c - 48)) / 10 < (n : Int) := by omega
        go_wp2
        go_roundg (gk - 1)
        case measure => have := HK.out; omega
        case rel => exact ⟨rfl, k + 1, ((n : Int) * 10 + (c - 48)).toNat, by have := HK.out; omega, by go_num, by go_num, by omega, HN⟩
      · have HN : Hid (none = o) := (rd_bad HD.out HC.out (by omega)).symm.trans H.out
        have hq : (18446744073709551615 - (c - 48)) / 10 < (n : Int) := by omega
        go_wp2
        go_ret2
        exact ⟨by rw [← HN.out]; rfl, rfl⟩
    · have HN : Hid (some n = o) := by
        have := H.out
        rw [List.drop_eq_nil_of_le (by simp; omega)] at this
        exact this
      go_wp2
      go_ret2
      exact ⟨by rw [← HN.out]; rfl, rfl⟩
end Go.Proofs.Ytkoepgjdjbmknaa
