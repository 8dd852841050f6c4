/-
  The document's own one.
-/
import Derived.Test.YtbmcnbhceogcjaaOne
import Derived.Test.YtbmcnbhceogcjaaRefClass
namespace Go.Proofs.Ytbmcnbhceogcjaa
open Go.RowKit Go.PlainAid
set_option maxHeartbeats 1000000 in
theorem refOne_any (s : ByteArray) (b : Nat) (w : World) (h0 : 0 < s.size) (hs : s.size ≤ maxLen) :
    Calls Try.prog 17 #[.string s, .int .u8 b] w fun e w' => Below w.heap.size w w' ∧ e = .returned (rclsR (one b (lst s))) := by
  have HS : Hid (s.size ≤ maxLen) := hs
  unfold maxLen at hs
  have hl := lst_cons s h0
  have HX1 : Hid (s.extract 1 s.size = bs ((lst s).drop 1)) := extract_bs s 1
  have HX2 : Hid (s.extract 2 s.size = bs ((lst s).drop 2)) := extract_bs s 2
  obtain ⟨c, hc⟩ : ∃ c : Int, ((s[0]'h0).toNat : Int) = c := ⟨_, rfl⟩
  have hcb := byte_le _ hc
  by_cases h63 : c = 63
  · have HO : Hid (one b (lst s) = (true, (lst s).drop 1)) := by
      show _ = _
      rw [hl]; simp only [one]
      rw [if_pos (by omega)]; rfl
    clear hl
    subst h63
    go_enter Try.func17, Try.ntmps17
    go_wp2
    go_quiet (fail)
    go_wp2
    go_ret2
    exact ⟨below_drewN .., by rw [HO.out, HX1.out]; rfl⟩
  have hq1 : (c == 63) = false := by simpa using h63
  by_cases h91 : c = 91
  · have HO : Hid (one b (lst s) = cls b ((lst s).drop 1)) := by
      show _ = _
      rw [hl]; simp only [one]
      rw [if_neg (by omega), if_pos (by omega)]; rfl
    clear hl h63
    subst h91
    have HK : Hid ((s.extract 1 s.size).size ≤ maxLen) := by
      have := size_drop1 s; have := HS.out; show _ ≤ _; omega
    go_enter Try.func17, Try.ntmps17
    go_wp2_with (go_at_call 19; refine (refClass_any _ b _ HK.out).mono ?_; rintro e w' ⟨hb1, rfl⟩; unfold rclsR)
    go_ret2
    exact ⟨hb1, by rw [HO.out, HX1.out]; rfl⟩
  have hq2 : (c == 91) = false := by simpa using h91
  by_cases h92 : c = 92
  · by_cases h1 : 1 < s.size
    · have hl1 := drop_at s 1 h1
      obtain ⟨d, hd⟩ : ∃ d : Int, ((s[1]'h1).toNat : Int) = d := ⟨_, rfl⟩
      have hdb := byte_le _ hd
      have HO : Hid (one b (lst s) = (decide (d = (b : Int)), (lst s).drop 2)) := by
        show _ = _
        rw [hl, hl1, one_esc b _ _ _ d (by omega) hd]; rfl
      clear hl hl1 h63 h91
      subst h92
      go_enter Try.func17, Try.ntmps17
      go_wp2
      go_quiet (fail)
      go_wp2
      go_ret2
      exact ⟨below_drewN .., by rw [HO.out, HX2.out]; rfl⟩
    · have HO : Hid (one b (lst s) = (decide (c = (b : Int)), (lst s).drop 1)) := by
        show _ = _
        rw [hl, one_lit b _ _ c hc h63 h91 (.inr (List.drop_eq_nil_of_le (by rw [len_lst]; omega)))]; rfl
      clear hl h63 h91
      subst h92
      go_enter Try.func17, Try.ntmps17
      go_wp2
      go_quiet (fail)
      go_wp2
      go_ret2
      exact ⟨below_drewN .., by rw [HO.out, HX1.out]; rfl⟩
  · have HO : Hid (one b (lst s) = (decide (c = (b : Int)), (lst s).drop 1)) := by
      show _ = _
      rw [hl, one_lit b _ _ c hc h63 h91 (.inl h92)]; rfl
    have hq3 : (c == 92) = false := by simpa using h92
    clear hl h63 h91 h92
    go_enter Try.func17, Try.ntmps17
    go_wp2
    go_quiet (fail)
    go_wp2
    go_ret2
    exact ⟨below_drewN .., by rw [HO.out, HX1.out]; rfl⟩
end Go.Proofs.Ytbmcnbhceogcjaa
