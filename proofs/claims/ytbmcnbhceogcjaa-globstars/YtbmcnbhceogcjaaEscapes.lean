/-
  The law GlobEscapes, walked.
-/
import Derived.Test.YtbmcnbhceogcjaaKeep
namespace Go.Proofs.Ytbmcnbhceogcjaa
open Go.RowKit Go.PlainAid

theorem esc_self (a s : List UInt8) : mat (esc a) s = decide (a = s) := by
  have := toks_esc a []
  rw [List.append_nil, toks_nil, List.append_nil] at this
  unfold mat
  rw [this, mt_self]
theorem esc_star (a s : List UInt8) : mat (esc a ++ [42]) (a ++ s) = true := by
  unfold mat
  rw [toks_esc, mt_lits, show toks [42] = [none] from rfl, star_all]
theorem beq_no {a b : ByteArray} (h : lst a ≠ lst b) : (a.toList == b.toList) = false := by
  rw [ByteArray.toList_eq, ByteArray.toList_eq]; simpa using h
theorem beq_yes {a b : ByteArray} (h : lst a = lst b) : (a.toList == b.toList) = true := by
  rw [ByteArray.toList_eq, ByteArray.toList_eq]; simpa using h
theorem take_snoc (s : ByteArray) (k : Nat) (h : k < s.size) : (lst s).take (k + 1) = (lst s).take k ++ [s[k]] := by
  rw [List.take_succ_eq_append_getElem (by simpa using h)]; rfl
theorem extract_one (s : ByteArray) (k : Nat) (h : k < s.size) : s.extract k (k + 1) = bs [s[k]] := by
  rw [← bs_lst (s.extract k (k + 1))]
  congr 1
  unfold lst
  rw [ByteArray.data_extract, Array.toList_extract, List.extract_eq_take_drop, show k + 1 - k = 1 by omega]
  rw [show s.data.toList.drop k = s[k] :: s.data.toList.drop (k + 1) from drop_at s k h]
  rfl

/-- What is written so far. -/
def Esc (s p : ByteArray) (k : Nat) : Prop := p = bs (esc ((lst s).take k))
theorem Esc.size {s p : ByteArray} {k : Nat} (h : Esc s p k) : p.size ≤ 2 * k := by
  rw [h, size_bs, esc_len, List.length_take]; omega
theorem Esc.step {s p : ByteArray} {k : Nat} (h : Esc s p k) (hk : k < s.size) : Esc s (p ++ ⟨#[92]⟩ ++ s.extract k (k + 1)) (k + 1) := by
  unfold Esc at h ⊢
  rw [extract_one s k hk, take_snoc s k hk, esc_snoc, h, show (⟨#[92]⟩ : ByteArray) = bs [92] from rfl, append_bs, append_bs]
  simp
theorem Esc.done {s p : ByteArray} {k : Nat} (h : Esc s p k) (hk : s.size ≤ k) : p = bs (esc (lst s)) := by
  rw [h, List.take_of_length_le (by rw [len_lst]; exact hk)]

set_option maxRecDepth 100000 in
set_option maxHeartbeats 2000000 in
theorem escapes_any (s t : ByteArray) (w : World) :
    Calls Try.prog 7 #[.string s, .string t] w fun e w' => e = .returned (.bool true) ∧ Below w.heap.size w w' := by
  have H0 : Hid (Below w.heap.size w w) := Below.refl _ _
  go_enter Try.func7, Try.ntmps7
  go_wp2_with fail
  refine (Cut_any s 20 _ (by decide)).mono ?_
  rintro e w ⟨rfl, rfl⟩
  have ha := size_cutB s 20 (by omega)
  generalize cutB s 20 = a at ha
  go_wp2_with fail
  refine (Cut_any t 20 _ (by decide)).mono ?_
  rintro e w ⟨rfl, rfl⟩
  have hb := size_cutB t 20 (by omega)
  generalize cutB t 20 = b at hb
  go_wp2_with fail
  go_loopg [5, 6] a.size (fun g pv iv wr => w = wr ∧ ∃ (k : Nat) (p : ByteArray), k + g = a.size ∧ pv = .string p ∧ iv = .int .i64 k ∧ p.size ≤ 40 ∧ Hid (Esc a p k))
  case atStart => exact ⟨rfl, 0, ⟨#[]⟩, by omega, rfl, rfl, by decide, rfl⟩
  case round =>
    obtain ⟨rfl, k, p, hk, rfl, rfl, hp, HE⟩ := hrel
    by_cases hlt : k < a.size
    · have HS : Hid (Esc a (p ++ ⟨#[92]⟩ ++ a.extract k (k + 1)) (k + 1)) := HE.out.step hlt
      have hxs : (a.extract k (k + 1)).size = 1 := by rw [extract_one a k hlt]; rfl
      have hp2 := HE.out.size
      go_wp2
      go_roundg (gk - 1)
      case measure => omega
      case rel => exact ⟨rfl, k + 1, _, by omega, rfl, by go_num, by have := HS.out.size; omega, HS⟩
    · have HD : Hid (p = bs (esc (lst a))) := HE.out.done (by omega)
      have HM1 := fun w => Match_is (p := p) (s := a) (R := true) (by rw [HD.out, lst_bs, esc_self]; simp) (by unfold maxLen; omega) (by unfold maxLen; omega) w
      have HM2 := fun w => Match_is (p := p) (s := b) (R := decide (lst a = lst b)) (by rw [HD.out, lst_bs, esc_self]) (by unfold maxLen; omega) (by unfold maxLen; omega) w
      have HM3 := fun w => Match_is (p := p ++ ⟨#[42]⟩) (s := a ++ b) (R := true) (by rw [HD.out, show (⟨#[42]⟩ : ByteArray) = bs [42] from rfl, append_bs, lst_bs, ← bs_lst a, ← bs_lst b, append_bs]; exact esc_star _ _) (by rw [ByteArray.size_append]; unfold maxLen; show p.size + 1 ≤ _; omega) (by rw [ByteArray.size_append]; unfold maxLen; omega) w
      clear HD HE hk
      by_cases hab : lst a = lst b
      · have hq := beq_yes hab
        rw [decide_eq_true hab] at HM2
        clear hab
        go_wp2_with fail
        refine (HM1 _).mono ?_
        rintro e w3 ⟨hb, rfl⟩
        have H1 := step_below H0 hb
        clear hb
        go_wp2_with fail
        refine (HM2 _).mono ?_
        rintro e w4 ⟨hb, rfl⟩
        have H2 := step_below H1 hb
        clear hb
        go_wp2_with fail
        refine (HM3 _).mono ?_
        rintro e w5 ⟨hb, rfl⟩
        have H3 := step_below H2 hb
        clear hb
        go_wp2_with fail
        refine (known_any _).mono ?_
        rintro e w6 ⟨hb, rfl⟩
        have H4 := step_below H3 hb
        clear hb
        go_wp2
        go_ret
        exact ⟨rfl, H4.out⟩
      · have hq := beq_no hab
        rw [decide_eq_false hab] at HM2
        clear hab
        go_wp2_with fail
        refine (HM1 _).mono ?_
        rintro e w3 ⟨hb, rfl⟩
        have H1 := step_below H0 hb
        clear hb
        go_wp2_with fail
        refine (HM2 _).mono ?_
        rintro e w4 ⟨hb, rfl⟩
        have H2 := step_below H1 hb
        clear hb
        go_wp2_with fail
        refine (HM3 _).mono ?_
        rintro e w5 ⟨hb, rfl⟩
        have H3 := step_below H2 hb
        clear hb
        go_wp2_with fail
        refine (known_any _).mono ?_
        rintro e w6 ⟨hb, rfl⟩
        have H4 := step_below H3 hb
        clear hb
        go_wp2
        go_ret
        exact ⟨rfl, H4.out⟩
end Go.Proofs.Ytbmcnbhceogcjaa
