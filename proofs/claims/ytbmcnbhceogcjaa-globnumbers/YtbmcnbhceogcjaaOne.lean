/-
  One byte against the first thing of a pattern (one); patterns of stars alone (onlyStars); Plain.
-/
import Derived.Test.YtbmcnbhceogcjaaClass
namespace Go.Proofs.Ytbmcnbhceogcjaa
open Go.RowKit Go.PlainAid

theorem size_drop1 (s : ByteArray) : (s.extract 1 s.size).size ≤ s.size := by simp

theorem one_esc (b : Nat) (x y : UInt8) (r : List UInt8) (d : Int) (hx : x.toNat = 92) (hd : (y.toNat : Int) = d) : one b (x :: y :: r) = (decide (d = (b : Int)), r) := by
  simp only [one]
  rw [if_neg (by omega), if_neg (by omega), if_pos ⟨hx, by simp⟩]
  refine Prod.ext ?_ rfl
  show decide (y.toNat = b) = decide (d = (b : Int))
  rw [Bool.eq_iff_iff, decide_eq_true_eq, decide_eq_true_eq]; omega
theorem one_lit (b : Nat) (x : UInt8) (r : List UInt8) (c : Int) (hc : (x.toNat : Int) = c) (h1 : c ≠ 63) (h2 : c ≠ 91) (h3 : c ≠ 92 ∨ r = []) : one b (x :: r) = (decide (c = (b : Int)), r) := by
  simp only [one]
  rw [if_neg (by omega), if_neg (by omega), if_neg]
  · refine Prod.ext ?_ rfl
    show decide (x.toNat = b) = decide (c = (b : Int))
    rw [Bool.eq_iff_iff, decide_eq_true_eq, decide_eq_true_eq]; omega
  · rintro ⟨e, hr⟩
    rcases h3 with h3 | h3
    · omega
    · exact hr h3

set_option maxHeartbeats 1000000 in
theorem one_any (s : ByteArray) (b : Nat) (w : World) (hs : s.size ≤ maxLen) :
    Calls Try.prog 15 #[.string s, .int .u8 b] w fun e w' => Below w.heap.size w w' ∧ e = .returned (clsR (one b (lst s))) := by
  have HS : Hid (s.size ≤ maxLen) := hs
  unfold maxLen at hs
  by_cases h0 : 0 < s.size
  · have hne := emp_no h0
    have hl := lst_cons s h0
    have HX1 : Hid (s.extract 1 s.size = bs ((lst s).drop 1)) := extract_bs s 1
    have HX2 : Hid (s.extract 2 s.size = bs ((lst s).drop 2)) := extract_bs s 2
    obtain ⟨c, hc⟩ : ∃ c : Int, ((s[0]'h0).toNat : Int) = c := ⟨_, rfl⟩
    have hcb := byte_le _ hc
    by_cases h63 : c = 63
    · have HO : Hid (one b (lst s) = (true, (lst s).drop 1)) := by
        show _ = _
        rw [hl]; simp only [one]
        rw [if_pos (by omega)]; rfl
      clear hl
      subst h63
      go_enter Try.func15, Try.ntmps15
      go_wp2
      go_ret2
      exact ⟨Below.refl _ _, by rw [HO.out, HX1.out]; rfl⟩
    have hq1 : (c == 63) = false := by simpa using h63
    by_cases h91 : c = 91
    · have HO : Hid (one b (lst s) = cls b ((lst s).drop 1)) := by
        show _ = _
        rw [hl]; simp only [one]
        rw [if_neg (by omega), if_pos (by omega)]; rfl
      clear hl h63
      subst h91
      have HK : Hid ((s.extract 1 s.size).size ≤ maxLen) := by
        have := size_drop1 s; have := HS.out; show _ ≤ _; omega
      go_enter Try.func15, Try.ntmps15
      go_wp2_with (go_at_call 18; refine (class_any _ b _ HK.out).mono ?_; rintro e w' ⟨hb1, rfl⟩; unfold clsR)
      go_ret2
      exact ⟨hb1, by rw [HO.out, HX1.out]; rfl⟩
    have hq2 : (c == 91) = false := by simpa using h91
    by_cases h92 : c = 92
    · by_cases h1 : 1 < s.size
      · have hl1 := drop_at s 1 h1
        obtain ⟨d, hd⟩ : ∃ d : Int, ((s[1]'h1).toNat : Int) = d := ⟨_, rfl⟩
        have hdb := byte_le _ hd
        have HO : Hid (one b (lst s) = (decide (d = (b : Int)), (lst s).drop 2)) := by
          show _ = _
          rw [hl, hl1, one_esc b _ _ _ d (by omega) hd]; rfl
        clear hl hl1 h63 h91
        subst h92
        go_enter Try.func15, Try.ntmps15
        go_wp2
        go_quiet (fail)
        go_wp2
        go_ret2
        exact ⟨below_drewN .., by rw [HO.out, HX2.out]; rfl⟩
      · have HO : Hid (one b (lst s) = (decide (c = (b : Int)), (lst s).drop 1)) := by
          show _ = _
          rw [hl, one_lit b _ _ c hc h63 h91 (.inr (List.drop_eq_nil_of_le (by rw [len_lst]; omega)))]; rfl
        clear hl h63 h91
        subst h92
        go_enter Try.func15, Try.ntmps15
        go_wp2
        go_quiet (fail)
        go_wp2
        go_ret2
        exact ⟨below_drewN .., by rw [HO.out, HX1.out]; rfl⟩
    · have HO : Hid (one b (lst s) = (decide (c = (b : Int)), (lst s).drop 1)) := by
        show _ = _
        rw [hl, one_lit b _ _ c hc h63 h91 (.inl h92)]; rfl
      have hq3 : (c == 92) = false := by simpa using h92
      clear hl h63 h91 h92
      go_enter Try.func15, Try.ntmps15
      go_wp2
      go_quiet (fail)
      go_wp2
      go_ret2
      exact ⟨below_drewN .., by rw [HO.out, HX1.out]; rfl⟩
  · have hne := emp_yes h0
    have HO : Hid (one b (lst s) = (false, [])) := by show _ = _; rw [lst_nil h0]; rfl
    go_enter Try.func15, Try.ntmps15
    go_wp2
    go_ret2
    exact ⟨Below.refl _ _, by rw [HO.out]; rfl⟩

theorem stars_no {l r : List UInt8} {x : UInt8} (h : l = x :: r) (hx : x.toNat ≠ 42) : stars l = false := by
  subst h; simp [stars, hx]
theorem stars_on {l r : List UInt8} {x : UInt8} (h : l = x :: r) (hx : x.toNat = 42) : stars l = stars r := by
  subst h; simp [stars, hx]

theorem onlyStars_any (s : ByteArray) (w : World) (hs : s.size ≤ maxLen) :
    Calls Try.prog 16 #[.string s] w fun e w' => w' = w ∧ e = .returned (.bool (stars (lst s))) := by
  unfold maxLen at hs
  obtain ⟨R, hR⟩ : ∃ R, stars (lst s) = R := ⟨_, rfl⟩
  have HR : Hid (stars (lst s) = R) := hR
  rw [hR]
  clear hR
  go_enter Try.func16, Try.ntmps16
  go_wp2
  go_loopg [3] s.size (fun g i wr => w = wr ∧ ∃ k : Nat, k + g = s.size ∧ i = .int .i64 k ∧ Hid (stars ((lst s).drop k) = R))
  case atStart => exact ⟨rfl, 0, by omega, rfl, HR⟩
  case round =>
    obtain ⟨rfl, k, hk, rfl, H⟩ := hrel
    have HK : Hid (k + gk = s.size) := hk
    clear hk HR
    by_cases hlt : k < s.size
    · have HD : Hid ((lst s).drop k = s[k] :: (lst s).drop (k + 1)) := drop_at s k hlt
      obtain ⟨c, hc⟩ : ∃ c : Int, ((s[k]'hlt).toNat : Int) = c := ⟨_, rfl⟩
      have hcb := byte_le _ hc
      have HC : Hid (((s[k]'hlt).toNat : Int) = c) := hc
      by_cases h42 : c = 42
      · subst h42
        have HN : Hid (stars ((lst s).drop (k + 1)) = R) := (stars_on HD.out (by have := HC.out; omega)).symm.trans H.out
        go_wp2
        go_roundg (gk - 1)
        case measure => have := HK.out; omega
        case rel => exact ⟨rfl, k + 1, by have := HK.out; omega, by go_num, HN⟩
      · have HN : Hid (false = R) := (stars_no HD.out (by have := HC.out; omega)).symm.trans H.out
        have hq : (c == 42) = false := by simpa using h42
        clear h42
        go_wp2
        go_ret
        exact ⟨rfl, by rw [← HN.out]; rfl⟩
    · have HN : Hid (true = R) := by
        have := H.out
        rw [List.drop_eq_nil_of_le (by rw [len_lst]; omega)] at this
        exact this
      go_wp2
      go_ret
      exact ⟨rfl, by rw [← HN.out]; rfl⟩

/-- No odd byte? -/
def plains (l : List UInt8) : Bool := l.all plainB
theorem plains_no {l r : List UInt8} {x : UInt8} {c : Int} (h : l = x :: r) (hc : (x.toNat : Int) = c) (hx : c = 42 ∨ c = 63 ∨ c = 91 ∨ c = 92) : plains l = false := by
  subst h
  have : plainB x = false := by unfold plainB; exact decide_eq_false (by omega)
  simp [plains, this]
theorem plains_on {l r : List UInt8} {x : UInt8} {c : Int} (h : l = x :: r) (hc : (x.toNat : Int) = c) (h1 : c ≠ 42) (h2 : c ≠ 63) (h3 : c ≠ 91) (h4 : c ≠ 92) : plains l = plains r := by
  subst h
  have : plainB x = true := by unfold plainB; exact decide_eq_true (by omega)
  simp [plains, this]

set_option maxHeartbeats 1000000 in
theorem Plain_any (s : ByteArray) (w : World) (hs : s.size ≤ maxLen) :
    Calls Try.prog 11 #[.string s] w fun e w' => w' = w ∧ e = .returned (.bool (plains (lst s))) := by
  unfold maxLen at hs
  obtain ⟨R, hR⟩ : ∃ R, plains (lst s) = R := ⟨_, rfl⟩
  have HR : Hid (plains (lst s) = R) := hR
  rw [hR]
  clear hR
  go_enter Try.func11, Try.ntmps11
  go_wp2
  go_loopg [3] s.size (fun g i wr => w = wr ∧ ∃ k : Nat, k + g = s.size ∧ i = .int .i64 k ∧ Hid (plains ((lst s).drop k) = R))
  case atStart => exact ⟨rfl, 0, by omega, rfl, HR⟩
  case round =>
    obtain ⟨rfl, k, hk, rfl, H⟩ := hrel
    have HK : Hid (k + gk = s.size) := hk
    clear hk HR
    by_cases hlt : k < s.size
    · have HD : Hid ((lst s).drop k = s[k] :: (lst s).drop (k + 1)) := drop_at s k hlt
      obtain ⟨c, hc⟩ : ∃ c : Int, ((s[k]'hlt).toNat : Int) = c := ⟨_, rfl⟩
      have hcb := byte_le _ hc
      have HC : Hid (((s[k]'hlt).toNat : Int) = c) := hc
      by_cases h42 : c = 42
      · have HN : Hid (false = R) := (plains_no HD.out HC.out (by omega)).symm.trans H.out
        subst h42
        go_wp2
        go_ret
        exact ⟨rfl, by rw [← HN.out]; rfl⟩
      by_cases h63 : c = 63
      · have HN : Hid (false = R) := (plains_no HD.out HC.out (by omega)).symm.trans H.out
        subst h63
        go_wp2
        go_ret
        exact ⟨rfl, by rw [← HN.out]; rfl⟩
      by_cases h91 : c = 91
      · have HN : Hid (false = R) := (plains_no HD.out HC.out (by omega)).symm.trans H.out
        subst h91
        go_wp2
        go_ret
        exact ⟨rfl, by rw [← HN.out]; rfl⟩
      by_cases h92 : c = 92
      · have HN : Hid (false = R) := (plains_no HD.out HC.out (by omega)).symm.trans H.out
        subst h92
        go_wp2
        go_ret
        exact ⟨rfl, by rw [← HN.out]; rfl⟩
      have HN : Hid (plains ((lst s).drop (k + 1)) = R) := (plains_on HD.out HC.out h42 h63 h91 h92).symm.trans H.out
      have hq1 : (c == 42) = false := by simpa using h42
      have hq2 : (c == 63) = false := by simpa using h63
      have hq3 : (c == 91) = false := by simpa using h91
      have hq4 : (c == 92) = false := by simpa using h92
      clear h42 h63 h91 h92
      go_wp2
      go_roundg (gk - 1)
      case measure => have := HK.out; omega
      case rel => exact ⟨rfl, k + 1, by have := HK.out; omega, by go_num, HN⟩
    · have HN : Hid (true = R) := by
        have := H.out
        rw [List.drop_eq_nil_of_le (by rw [len_lst]; omega)] at this
        exact this
      go_wp2
      go_ret
      exact ⟨rfl, by rw [← HN.out]; rfl⟩
end Go.Proofs.Ytbmcnbhceogcjaa
