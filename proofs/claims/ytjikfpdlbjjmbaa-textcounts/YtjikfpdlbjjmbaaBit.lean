/-
  The program's mask and Bit, the document's own Bit.
-/
import Derived.Test.YtjikfpdlbjjmbaaCnt
import Derived.Laws.BitsAllLaws
import Derived.Deep.RegionWith
namespace Go.Proofs.Ytjikfpdlbjjmbaa
open Go.RowKit Go.PlainAid

theorem mask_any (k : Nat) (w : World) (hk : k ≤ 9223372036854775807) : Calls Try.prog 30 #[.int .i64 k] w fun e w' => e = .returned (.int .u8 ((2 ^ (7 - k % 8) : Nat) : Int)) ∧ w' = w := by
  obtain ⟨j, hj⟩ : ∃ j, k % 8 = j := ⟨_, rfl⟩
  have hj8 : j < 8 := by omega
  have hm : (k : Int).tmod 8 = (j : Int) := by rw [Int.tmod_eq_emod_of_nonneg (by omega)]; omega
  rw [hj]
  clear hj
  have : j = 0 ∨ j = 1 ∨ j = 2 ∨ j = 3 ∨ j = 4 ∨ j = 5 ∨ j = 6 ∨ j = 7 := by omega
  rcases this with rfl | rfl | rfl | rfl | rfl | rfl | rfl | rfl
  all_goals
    go_enter Try.func30, Try.ntmps30
    go_wp2
    go_ret
    exact ⟨by simp, rfl⟩

theorem bitB_nat (s : ByteArray) (k : Nat) : bitB s (k : Int) = bitN (byteAt s (k / 8)) (7 - k % 8) := by
  unfold bitB; rw [if_neg (by omega)]; rfl
theorem bitB_neg (s : ByteArray) (i : Int) (h : i < 0) : bitB s i = 0 := if_pos h
theorem bitB_le (s : ByteArray) (i : Int) : bitB s i ≤ 1 := by
  unfold bitB; split
  · omega
  · exact bitN_le _ _

set_option maxHeartbeats 1000000 in
theorem BitQ_any (s : ByteArray) (i : Int) (w : World) (hi : I64 i) (hs : s.size ≤ maxLen) :
    Calls Try.prog 17 #[.string s, .int .i64 i] w fun e w' => e = .returned (.int .i64 (bitB s i : Nat)) ∧ ∃ m, w' = w.drewN m := by
  unfold maxLen at hs
  unfold I64 at hi
  by_cases h : i < 0
  · rw [bitB_neg s i h]
    go_enter Try.func17, Try.ntmps17
    go_wp2
    go_ret
    exact ⟨rfl, 0, rfl⟩
  obtain ⟨k, rfl⟩ : ∃ k : Nat, i = k := ⟨i.toNat, by omega⟩
  rw [bitB_nat]
  obtain ⟨q, hq⟩ : ∃ q, k / 8 = q := ⟨_, rfl⟩
  rw [hq]
  have hqz : (k : Int) / 8 = (q : Int) := by omega
  by_cases hlt : q < s.size
  · have HM := fun w => mask_any k w (by omega)
    have hj : 7 - k % 8 < 8 := by omega
    generalize 7 - k % 8 = j at HM hj ⊢
    have hA : bits .and .u8 ((s[q]'hlt).toNat : Int) ((2 ^ j : Nat) : Int) = ((byteAt s q &&& 2 ^ j : Nat) : Int) := by
      rw [byteAt_in s q hlt]; exact u8_and_nat _ _ (s[q]'hlt).toNat_lt (pow_lt8 j hj).1
    have hZ := and_zero (byteAt s q) j (byteAt_lt s q) hj
    have h1 := bitN_le (byteAt s q) j
    generalize byteAt s q &&& 2 ^ j = R at hA hZ
    generalize bitN (byteAt s q) j = V at hZ h1 ⊢
    obtain ⟨M, hM⟩ : ∃ M : Int, ((2 ^ j : Nat) : Int) = M := ⟨_, rfl⟩
    rw [hM] at hA HM
    clear hM hj hq
    by_cases hV : V = 0
    · have hR := hZ.2 hV
      subst hV hR
      clear hZ h1
      go_enter Try.func17, Try.ntmps17
      go_wp2
      go_quiet ((go_at_call 30; refine Calls.quiet_of_same (HM _)))
      go_wp2
      go_ret
      exact ⟨rfl, _, rfl⟩
    · have hR : ((R : Int) == 0) = false := by simp; exact fun e => hV (hZ.1 e)
      obtain rfl : V = 1 := by omega
      clear hZ h1 hV
      go_enter Try.func17, Try.ntmps17
      go_wp2
      go_quiet ((go_at_call 30; refine Calls.quiet_of_same (HM _)))
      go_wp2
      go_ret
      exact ⟨rfl, _, rfl⟩
  · rw [byteAt_out s q (by omega), bitN_zero]
    clear hq
    go_enter Try.func17, Try.ntmps17
    go_wp2
    go_ret
    exact ⟨rfl, 0, rfl⟩

theorem Bit_any (s : ByteArray) (i : Int) (w : World) (hi : I64 i) (hs : s.size ≤ maxLen) :
    Calls Try.prog 17 #[.string s, .int .i64 i] w fun e w' => e = .returned (.int .i64 (bitB s i : Nat)) ∧ Below w.heap.size w w' :=
  (BitQ_any s i w hi hs).mono fun e w' ⟨h, m, hm⟩ => ⟨h, by rw [hm]; exact below_drewN w m⟩

theorem i64_and1 (n : Int) : bits .and .i64 n 1 = n % 2 := by
  have h1 : (BitVec.ofInt 64 1).toNat = 2 ^ 1 - 1 := by decide
  have key : (BitVec.ofInt 64 n &&& BitVec.ofInt 64 1).toNat = (n % ((2 ^ 64 : Nat) : Int)).toNat % 2 ^ 1 := by
    rw [BitVec.toNat_and, BitVec.toNat_ofInt, h1, Nat.and_two_pow_sub_one_eq_mod]
  show IntKind.i64.wrap ((BitVec.ofInt 64 n &&& BitVec.ofInt 64 1).toNat : Nat) = n % 2
  rw [key, IntKind.wrap_i64]
  omega

set_option maxHeartbeats 1000000 in
theorem refBit_any (s : ByteArray) (i : Int) (w : World) (hi : I64 i) (hs : s.size ≤ maxLen) :
    Calls Try.prog 27 #[.string s, .int .i64 i] w fun e w' => e = .returned (.int .i64 (bitB s i : Nat)) ∧ w' = w := by
  unfold maxLen at hs
  unfold I64 at hi
  by_cases h : i < 0
  · rw [bitB_neg s i h]
    go_enter Try.func27, Try.ntmps27
    go_wp2
    go_ret
    exact ⟨rfl, rfl⟩
  obtain ⟨k, rfl⟩ : ∃ k : Nat, i = k := ⟨i.toNat, by omega⟩
  rw [bitB_nat]
  obtain ⟨q, hq⟩ : ∃ q, k / 8 = q := ⟨_, rfl⟩
  rw [hq]
  have hqz : (k : Int) / 8 = (q : Int) := by omega
  by_cases hlt : q < s.size
  · obtain ⟨j, hj⟩ : ∃ j, k % 8 = j := ⟨_, rfl⟩
    have hj8 : j < 8 := by omega
    have hm : (k : Int).tmod 8 = (j : Int) := by rw [Int.tmod_eq_emod_of_nonneg (by omega)]; omega
    rw [hj, byteAt_in s q hlt]
    have hb := (s[q]'hlt).toNat_lt
    generalize hc : (s[q]'hlt).toNat = c at hb ⊢
    have hc' : ((s[q]'hlt).toNat : Int) = (c : Int) := by rw [hc]
    clear hj hc hq
    have : j = 0 ∨ j = 1 ∨ j = 2 ∨ j = 3 ∨ j = 4 ∨ j = 5 ∨ j = 6 ∨ j = 7 := by omega
    rcases this with rfl | rfl | rfl | rfl | rfl | rfl | rfl | rfl
    all_goals
      go_enter Try.func27, Try.ntmps27
      go_wp2
      go_ret
      exact ⟨by simp [bitN, i64_and1], rfl⟩
  · rw [byteAt_out s q (by omega), bitN_zero]
    clear hq
    go_enter Try.func27, Try.ntmps27
    go_wp2
    go_ret
    exact ⟨rfl, rfl⟩
end Go.Proofs.Ytjikfpdlbjjmbaa
