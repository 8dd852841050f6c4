/-
  The document's own Text, walked: its loop over the name, then its table.
-/
import Derived.Test.YtiamgnfbgiognaaGreatDoorXText
import Derived.Deep.Cut
namespace Go.Proofs.YtiamgnfbgiognaaGreatDoor
open Go.RowKit

/-- The name as it is shown, as far as k bytes. -/
def nameB (s : ByteArray) (k : Nat) : ByteArray := ⟨((s.data.toList.take k).map qb).toArray⟩
theorem nameB_zero (s : ByteArray) : nameB s 0 = ⟨#[]⟩ := rfl
theorem nameB_all (s : ByteArray) : nameB s s.size = shownB s := by
  unfold nameB shownB
  rw [List.take_of_length_le (by simp)]
theorem size_nameB (s : ByteArray) (k : Nat) : (nameB s k).size ≤ s.size := by
  show (((s.data.toList.take k).map qb).toArray).size ≤ s.data.size
  simp; omega

theorem encode_small (n : Int) (h0 : 0 ≤ n) (h : n < 128) : Utf8.encode n = ⟨#[UInt8.ofNat n.toNat]⟩ := by
  have hv : Utf8.valid n = true := by simp [Utf8.valid]; omega
  have hlt : n.toNat < 128 := by omega
  unfold Utf8.encode
  simp only [hv, if_true]
  rw [if_pos hlt]

theorem take_snoc (s : ByteArray) (k : Nat) (h : k < s.size) : s.data.toList.take (k + 1) = s.data.toList.take k ++ [s[k]] := by
  rw [List.take_succ_eq_append_getElem (by simpa using h)]; rfl

theorem nameB_succ (s : ByteArray) (k : Nat) (h : k < s.size) : nameB s (k + 1) = nameB s k ++ ⟨#[qb s[k]]⟩ := by
  unfold nameB
  rw [take_snoc s k h, List.map_append]
  exact (ByteArray.mk_append_mk _ [qb s[k]]).symm

theorem nameB_q (s : ByteArray) (k : Nat) (h : k < s.size) (n : Int) (hn : ((s[k]).toNat : Int) = n) (hq : n < 32 ∨ 126 < n ∨ n = 39) : nameB s (k + 1) = nameB s k ++ ⟨#[63]⟩ := by
  rw [nameB_succ s k h]
  have : qb s[k] = 63 := by unfold qb; rw [if_pos (by omega)]
  rw [this]

theorem nameB_id (s : ByteArray) (k : Nat) (h : k < s.size) (n : Int) (hn : ((s[k]).toNat : Int) = n) (hq : ¬ (n < 32 ∨ 126 < n ∨ n = 39)) : nameB s (k + 1) = nameB s k ++ Utf8.encode n := by
  rw [nameB_succ s k h, encode_small n (by omega) (by omega)]
  have e1 : qb s[k] = s[k] := by unfold qb; rw [if_neg (by omega)]
  have e2 : UInt8.ofNat n.toNat = s[k] := by
    rw [← hn, Int.toNat_natCast]; simp
  rw [e1, e2]

theorem size_encode (n : Int) (h0 : 0 ≤ n) (h : n < 128) : (Utf8.encode n).size = 1 := by rw [encode_small n h0 h]; rfl

set_option maxHeartbeats 4000000 in
set_option maxRecDepth 100000 in
theorem ref_any (c : Int) (s nn : ByteArray) (w : World) (hs : s.size ≤ 1000) (hnn : shownB s = nn) : Calls Tryz.prog 10 #[.int .i64 c, .string s] w fun e w' => e = .returned (.string (textB c nn)) ∧ w' = w := by
  have hnz : nn.size ≤ 1000 := by rw [← hnn, size_shownB]; exact hs
  have HNN : Hid (shownB s = nn) := hnn
  clear hnn
  go_enter Tryz.func10, Tryz.ntmps10
  go_wp2
  go_loopg [5, 6] s.size (fun g nm i wr => w = wr ∧ ∃ k : Nat, k + g = s.size ∧ i = .int .i64 k ∧ nm = .string (nameB s k))
  case atStart => exact ⟨rfl, 0, by omega, rfl, rfl⟩
  case round =>
    obtain ⟨rfl, k, hk, rfl, rfl⟩ := hrel
    have hnm := size_nameB s k
    have HK : Hid (k + gk = s.size) := hk
    clear hk
    by_cases hlt : k < s.size
    · generalize hnmk : nameB s k = nm at *
      have HNM : Hid (nameB s k = nm) := hnmk
      clear hnmk
      go_upto_region 6 with fail
      have hb0 := UInt8.toNat_lt s[k]
      generalize hn : ((s[k]).toNat : Int) = n
      have HAT : Hid (((s[k]).toNat : Int) = n) := hn
      have hbd : 0 ≤ n ∧ n < 256 := by omega
      clear hn hb0
      have he := encode_small 63 (by decide) (by decide)
      by_cases hq1 : n < 32
      · go_wp2
        go_roundg (gk - 1)
        case measure => have := HK.out; omega
        case rel => exact ⟨rfl, k + 1, by have := HK.out; omega, by go_num, by rw [nameB_q s k hlt n HAT.out (by omega), HNM.out]⟩
      · by_cases hq2 : 126 < n
        · go_wp2
          go_roundg (gk - 1)
          case measure => have := HK.out; omega
          case rel => exact ⟨rfl, k + 1, by have := HK.out; omega, by go_num, by rw [nameB_q s k hlt n HAT.out (by omega), HNM.out]⟩
        · by_cases hq3 : n = 39
          · subst hq3
            go_wp2
            go_roundg (gk - 1)
            case measure => have := HK.out; omega
            case rel => exact ⟨rfl, k + 1, by have := HK.out; omega, by go_num, by rw [nameB_q s k hlt 39 HAT.out (by omega), HNM.out]⟩
          · have hq4 : (n == 39) = false := by simp [hq3]
            have hes := size_encode n (by omega) (by omega)
            have hes2 : (Utf8.encode n).size ≤ 1 := by omega
            have HI := nameB_id s k hlt n HAT.out (by omega)
            have HI2 : Hid (nameB s (k + 1) = nameB s k ++ Utf8.encode n) := HI
            clear hes HI hq3
            go_wp2
            go_roundg (gk - 1)
            case measure => have := HK.out; omega
            case rel => exact ⟨rfl, k + 1, by have := HK.out; omega, by go_num, by rw [HI2.out, HNM.out]⟩
    · have hke : nameB s k = nn := by
        rw [show k = s.size by have := HK.out; omega, nameB_all]; exact HNN.out
      rw [hke]
      clear hke hnm HK
      by_cases h1 : c = 1
      · subst h1
        have HP : Hid (textB 1 nn = plainB 1) := rfl
        go_wp2
        go_ret
        exact ⟨by rw [HP.out]; rfl, rfl⟩
      by_cases h2 : c = 2
      · subst h2
        have HP : Hid (textB 2 nn = (⟨#[69, 82, 82, 32, 119, 114, 111, 110, 103, 32, 110, 117, 109, 98, 101, 114, 32, 111, 102, 32, 97, 114, 103, 117, 109, 101, 110, 116, 115, 32, 102, 111, 114, 32, 39]⟩ : ByteArray) ++ nn ++ ⟨#[39, 32, 99, 111, 109, 109, 97, 110, 100]⟩) := rfl
        go_wp2
        go_ret
        exact ⟨by rw [HP.out]; rfl, rfl⟩
      by_cases h3 : c = 3
      · subst h3
        have HP : Hid (textB 3 nn = (⟨#[69, 82, 82, 32, 117, 110, 107, 110, 111, 119, 110, 32, 99, 111, 109, 109, 97, 110, 100, 32, 39]⟩ : ByteArray) ++ nn ++ ⟨#[39]⟩) := rfl
        go_wp2
        go_ret
        exact ⟨by rw [HP.out]; rfl, rfl⟩
      by_cases h4 : c = 4
      · subst h4
        have HP : Hid (textB 4 nn = plainB 4) := rfl
        go_wp2
        go_ret
        exact ⟨by rw [HP.out]; rfl, rfl⟩
      by_cases h5 : c = 5
      · subst h5
        have HP : Hid (textB 5 nn = plainB 5) := rfl
        go_wp2
        go_ret
        exact ⟨by rw [HP.out]; rfl, rfl⟩
      by_cases h6 : c = 6
      · subst h6
        have HP : Hid (textB 6 nn = plainB 6) := rfl
        go_wp2
        go_ret
        exact ⟨by rw [HP.out]; rfl, rfl⟩
      by_cases h7 : c = 7
      · subst h7
        have HP : Hid (textB 7 nn = plainB 7) := rfl
        go_wp2
        go_ret
        exact ⟨by rw [HP.out]; rfl, rfl⟩
      by_cases h8 : c = 8
      · subst h8
        have HP : Hid (textB 8 nn = plainB 8) := rfl
        go_wp2
        go_ret
        exact ⟨by rw [HP.out]; rfl, rfl⟩
      by_cases h9 : c = 9
      · subst h9
        have HP : Hid (textB 9 nn = plainB 9) := rfl
        go_wp2
        go_ret
        exact ⟨by rw [HP.out]; rfl, rfl⟩
      by_cases h10 : c = 10
      · subst h10
        have HP : Hid (textB 10 nn = plainB 10) := rfl
        go_wp2
        go_ret
        exact ⟨by rw [HP.out]; rfl, rfl⟩
      by_cases h11 : c = 11
      · subst h11
        have HP : Hid (textB 11 nn = plainB 11) := rfl
        go_wp2
        go_ret
        exact ⟨by rw [HP.out]; rfl, rfl⟩
      by_cases h12 : c = 12
      · subst h12
        have HP : Hid (textB 12 nn = (⟨#[69, 82, 82, 32, 105, 110, 118, 97, 108, 105, 100, 32, 101, 120, 112, 105, 114, 101, 32, 116, 105, 109, 101, 32, 105, 110, 32, 39]⟩ : ByteArray) ++ nn ++ ⟨#[39, 32, 99, 111, 109, 109, 97, 110, 100]⟩) := rfl
        go_wp2
        go_ret
        exact ⟨by rw [HP.out]; rfl, rfl⟩
      have HP : Hid (textB c nn = plainB c) := by
        show textB c nn = _
        unfold textB
        rw [if_neg h2, if_neg h3, if_neg h12]
      have HM := fun w => more_any c w h1 h4 h5 h6 h7 h8 h9 h10 h11
      have HM2 : Hid (∀ w, Calls Tryz.prog 23 #[.int .i64 c] w fun e w' => e = .returned (.string (plainB c)) ∧ w' = w) := HM
      have g1 : (c == 1) = false := by simp [h1]
      have g2 : (c == 2) = false := by simp [h2]
      have g3 : (c == 3) = false := by simp [h3]
      have g4 : (c == 4) = false := by simp [h4]
      have g5 : (c == 5) = false := by simp [h5]
      have g6 : (c == 6) = false := by simp [h6]
      have g7 : (c == 7) = false := by simp [h7]
      have g8 : (c == 8) = false := by simp [h8]
      have g9 : (c == 9) = false := by simp [h9]
      have g10 : (c == 10) = false := by simp [h10]
      have g11 : (c == 11) = false := by simp [h11]
      have g12 : (c == 12) = false := by simp [h12]
      clear HM h1 h2 h3 h4 h5 h6 h7 h8 h9 h10 h11 h12
      go_wp2_with (go_at_call 23; refine (HM2.out _).mono ?_; rintro e w ⟨rfl, rfl⟩)
      go_ret
      exact ⟨by rw [HP.out]; rfl, rfl⟩
end Go.Proofs.YtiamgnfbgiognaaGreatDoor
