/-
  The law GlobStars, walked.
-/
import Derived.Test.YtbmcnbhceogcjaaEscapes
namespace Go.Proofs.Ytbmcnbhceogcjaa
open Go.RowKit Go.PlainAid

theorem encode_small (n : Int) (h0 : 0 ≤ n) (h : n < 128) : Utf8.encode n = ⟨#[UInt8.ofNat n.toNat]⟩ := by
  have hv : Utf8.valid n = true := by simp [Utf8.valid]; omega
  have hlt : n.toNat < 128 := by omega
  unfold Utf8.encode
  simp only [hv, if_true]
  rw [if_pos hlt]
theorem letter_snoc {p : ByteArray} {n : Int} (hp : plains (lst p) = true) (h1 : 97 ≤ n) (h2 : n ≤ 122) (he : Utf8.encode n = ⟨#[UInt8.ofNat n.toNat]⟩) : plains (lst (p ++ Utf8.encode n)) = true := by
  rw [he, ← bs_lst p, show (⟨#[UInt8.ofNat n.toNat]⟩ : ByteArray) = bs [UInt8.ofNat n.toNat] from rfl, append_bs, lst_bs]
  unfold plains
  rw [List.all_append, Bool.and_eq_true]
  refine ⟨hp, ?_⟩
  have ht : (UInt8.ofNat n.toNat).toNat = n.toNat := by rw [UInt8.toNat_ofNat']; omega
  have : plainB (UInt8.ofNat n.toNat) = true := by unfold plainB; rw [ht]; exact decide_eq_true (by omega)
  simp [this]

theorem plains_iff {l : List UInt8} (h : plains l = true) : ∀ x ∈ l, plainB x = true := List.all_eq_true.1 h
theorem plain_self {a : ByteArray} (h : plains (lst a) = true) (s : List UInt8) : mat (lst a) s = decide (lst a = s) := by
  have := toks_plain (lst a) [] (plains_iff h)
  rw [List.append_nil, toks_nil, List.append_nil] at this
  unfold mat
  rw [this, mt_self]
theorem one_star : (⟨#[42]⟩ : ByteArray) = bs [42] := rfl
theorem plain_star {a : ByteArray} (h : plains (lst a) = true) (b : ByteArray) : mat (lst (a ++ ⟨#[42]⟩)) (lst (a ++ b)) = true := by
  have e1 : lst (a ++ ⟨#[42]⟩) = lst a ++ [42] := by rw [one_star, ← bs_lst a, append_bs, lst_bs, lst_bs]
  have e2 : lst (a ++ b) = lst a ++ lst b := by rw [← bs_lst a, ← bs_lst b, append_bs, lst_bs, lst_bs, lst_bs]
  unfold mat
  rw [e1, e2, toks_plain _ _ (plains_iff h), mt_lits, show toks [42] = [none] from rfl, star_all]
theorem star_plain {b : ByteArray} (h : plains (lst b) = true) (a : ByteArray) : mat (lst ((⟨#[42]⟩ : ByteArray) ++ b)) (lst (a ++ b)) = true := by
  have e1 : lst ((⟨#[42]⟩ : ByteArray) ++ b) = 42 :: lst b := by rw [one_star, ← bs_lst b, append_bs, lst_bs, lst_bs]; rfl
  have e2 : lst (a ++ b) = lst a ++ lst b := by rw [← bs_lst a, ← bs_lst b, append_bs, lst_bs, lst_bs, lst_bs]
  have hm := plain_self h (lst b)
  unfold mat at hm ⊢
  rw [e1, e2, toks_star _ _ (by decide)]
  exact star_append (k := mt (toks (lst b))) (by rw [hm]; simp)
theorem star_plain_star {a : ByteArray} (h : plains (lst a) = true) (b : ByteArray) : mat (lst ((⟨#[42]⟩ : ByteArray) ++ a ++ ⟨#[42]⟩)) (lst (b ++ a ++ b)) = true := by
  have e1 : lst ((⟨#[42]⟩ : ByteArray) ++ a ++ ⟨#[42]⟩) = 42 :: (lst a ++ [42]) := by rw [one_star, ← bs_lst a, append_bs, append_bs, lst_bs, lst_bs]; rfl
  have e2 : lst (b ++ a ++ b) = lst b ++ (lst a ++ lst b) := by rw [← bs_lst a, ← bs_lst b, append_bs, append_bs, lst_bs, lst_bs, lst_bs, List.append_assoc]
  unfold mat
  rw [e1, e2, toks_star _ _ (by decide)]
  refine star_append (k := mt (toks (lst a ++ [42]))) ?_
  rw [toks_plain _ _ (plains_iff h), mt_lits, show toks [42] = [none] from rfl, star_all]

set_option maxRecDepth 100000 in
set_option maxHeartbeats 4000000 in
theorem stars_any (s t : ByteArray) (w : World) (hs : s.size ≤ maxLen) :
    Calls Try.prog 5 #[.string s, .string t] w fun e w' => e = .returned (.bool true) ∧ Below w.heap.size w w' := by
  have H0 : Hid (Below w.heap.size w w) := Below.refl _ _
  have HM1 := fun w => Match_is (p := ⟨#[42]⟩) (s := s) (R := true) (star_all (lst s)) (by decide) hs w
  unfold maxLen at hs
  go_enter Try.func5, Try.ntmps5
  go_wp2
  go_loopg [5, 7] 20 (fun g pv iv wr => w = wr ∧ ∃ (k : Nat) (p : ByteArray), k + g = 20 ∧ pv = .string p ∧ iv = .int .i64 k ∧ p.size ≤ k ∧ Hid (plains (lst p) = true))
  case atStart => exact ⟨rfl, 0, ⟨#[]⟩, by omega, rfl, rfl, by decide, rfl⟩
  case round =>
    obtain ⟨rfl, k, p, hk, rfl, rfl, hp, HP⟩ := hrel
    by_cases hlt : k < s.size
    · by_cases h20 : k < 20
      · obtain ⟨c, hc⟩ : ∃ c : Int, ((s[k]'hlt).toNat : Int) = c := ⟨_, rfl⟩
        have hcb := byte_le _ hc
        have he := encode_small (97 + c % 26) (by omega) (by omega)
        have hes : (Utf8.encode (97 + c % 26)).size = 1 := by rw [he]; rfl
        have HS : Hid (plains (lst (p ++ Utf8.encode (97 + c % 26))) = true) := letter_snoc HP.out (by omega) (by omega) he
        clear he
        go_wp2
        go_roundg (gk - 1)
        case measure => omega
        case rel => exact ⟨rfl, k + 1, _, by omega, rfl, by go_num, by rw [ByteArray.size_append, hes]; omega, HS⟩
      · have hp20 : p.size ≤ 20 := by omega
        have HPA : Hid (plains (lst p) = true) := HP
        obtain ⟨a, ha⟩ : ∃ a, a = p := ⟨_, rfl⟩
        subst ha
        have ha20 : a.size ≤ 20 := hp20
        clear hp20 hp HP
        go_wp2
        go_loopg [6, 8] 20 (fun g pv iv wr => w = wr ∧ ∃ (k : Nat) (p : ByteArray), k + g = 20 ∧ pv = .string p ∧ iv = .int .i64 k ∧ p.size ≤ k ∧ Hid (plains (lst p) = true))
        case atStart => exact ⟨rfl, 0, ⟨#[]⟩, by omega, rfl, rfl, by decide, rfl⟩
        case round =>
          obtain ⟨rfl, k, p, hk, rfl, rfl, hp, HP⟩ := hrel
          by_cases hlt : k < t.size
          · by_cases h20 : k < 20
            · obtain ⟨c, hc⟩ : ∃ c : Int, ((t[k]'hlt).toNat : Int) = c := ⟨_, rfl⟩
              have hcb := byte_le _ hc
              have he := encode_small (97 + c % 26) (by omega) (by omega)
              have hes : (Utf8.encode (97 + c % 26)).size = 1 := by rw [he]; rfl
              have HS : Hid (plains (lst (p ++ Utf8.encode (97 + c % 26))) = true) := letter_snoc HP.out (by omega) (by omega) he
              clear he
              go_wp2
              go_roundg (gk - 1)
              case measure => omega
              case rel => exact ⟨rfl, k + 1, _, by omega, rfl, by go_num, by rw [ByteArray.size_append, hes]; omega, HS⟩
            · have hp20 : p.size ≤ 20 := by omega
              have HM2 := fun w => Match_is (p := a) (s := a) (R := true) (by rw [plain_self HPA.out]; simp) (by unfold maxLen; omega) (by unfold maxLen; omega) w
              have HM3 := fun w => Match_is (p := a) (s := p) (R := decide (lst a = lst p)) (plain_self HPA.out _) (by unfold maxLen; omega) (by unfold maxLen; omega) w
              have HM4 := fun w => Match_is (p := a ++ ⟨#[42]⟩) (s := a ++ p) (R := true) (plain_star HPA.out p) (by rw [ByteArray.size_append]; unfold maxLen; show a.size + 1 ≤ _; omega) (by rw [ByteArray.size_append]; unfold maxLen; omega) w
              have HM5 := fun w => Match_is (p := (⟨#[42]⟩ : ByteArray) ++ p) (s := a ++ p) (R := true) (star_plain HP.out a) (by rw [ByteArray.size_append]; unfold maxLen; show 1 + p.size ≤ _; omega) (by rw [ByteArray.size_append]; unfold maxLen; omega) w
              have HM6 := fun w => Match_is (p := (⟨#[42]⟩ : ByteArray) ++ a ++ ⟨#[42]⟩) (s := p ++ a ++ p) (R := true) (star_plain_star HPA.out p) (by rw [ByteArray.size_append, ByteArray.size_append]; unfold maxLen; show 1 + a.size + 1 ≤ _; omega) (by rw [ByteArray.size_append, ByteArray.size_append]; unfold maxLen; omega) w
              have HPl := fun w => Plain_any a w (by unfold maxLen; omega)
              rw [HPA.out] at HPl
              by_cases hap : lst a = lst p
              · have hq := beq_yes hap
                rw [decide_eq_true hap] at HM3
                clear hap
                go_wp2_with fail
                refine (HM1 _).mono ?_
                rintro e v1 ⟨hb, rfl⟩
                have H1 := step_below H0 hb
                clear hb
                go_wp2_with fail
                refine (HPl _).mono ?_
                rintro e v1 ⟨rfl, rfl⟩
                go_wp2_with fail
                refine (HM2 _).mono ?_
                rintro e v2 ⟨hb, rfl⟩
                have H2 := step_below H1 hb
                clear hb
                go_wp2_with fail
                refine (HM3 _).mono ?_
                rintro e v3 ⟨hb, rfl⟩
                have H3 := step_below H2 hb
                clear hb
                go_wp2_with fail
                refine (HM4 _).mono ?_
                rintro e v4 ⟨hb, rfl⟩
                have H4 := step_below H3 hb
                clear hb
                go_wp2_with fail
                refine (HM5 _).mono ?_
                rintro e v5 ⟨hb, rfl⟩
                have H5 := step_below H4 hb
                clear hb
                go_wp2_with fail
                refine (HM6 _).mono ?_
                rintro e v6 ⟨hb, rfl⟩
                have H6 := step_below H5 hb
                clear hb
                go_wp2_with fail
                refine (known_any _).mono ?_
                rintro e v7 ⟨hb, rfl⟩
                have H7 := step_below H6 hb
                clear hb
                go_wp2
                go_ret
                exact ⟨rfl, H7.out⟩
              · have hq := beq_no hap
                rw [decide_eq_false hap] at HM3
                clear hap
                go_wp2_with fail
                refine (HM1 _).mono ?_
                rintro e v1 ⟨hb, rfl⟩
                have H1 := step_below H0 hb
                clear hb
                go_wp2_with fail
                refine (HPl _).mono ?_
                rintro e v1 ⟨rfl, rfl⟩
                go_wp2_with fail
                refine (HM2 _).mono ?_
                rintro e v2 ⟨hb, rfl⟩
                have H2 := step_below H1 hb
                clear hb
                go_wp2_with fail
                refine (HM3 _).mono ?_
                rintro e v3 ⟨hb, rfl⟩
                have H3 := step_below H2 hb
                clear hb
                go_wp2_with fail
                refine (HM4 _).mono ?_
                rintro e v4 ⟨hb, rfl⟩
                have H4 := step_below H3 hb
                clear hb
                go_wp2_with fail
                refine (HM5 _).mono ?_
                rintro e v5 ⟨hb, rfl⟩
                have H5 := step_below H4 hb
                clear hb
                go_wp2_with fail
                refine (HM6 _).mono ?_
                rintro e v6 ⟨hb, rfl⟩
                have H6 := step_below H5 hb
                clear hb
                go_wp2_with fail
                refine (known_any _).mono ?_
                rintro e v7 ⟨hb, rfl⟩
                have H7 := step_below H6 hb
                clear hb
                go_wp2
                go_ret
                exact ⟨rfl, H7.out⟩
          · have hp20 : p.size ≤ 20 := by omega
            have HM2 := fun w => Match_is (p := a) (s := a) (R := true) (by rw [plain_self HPA.out]; simp) (by unfold maxLen; omega) (by unfold maxLen; omega) w
            have HM3 := fun w => Match_is (p := a) (s := p) (R := decide (lst a = lst p)) (plain_self HPA.out _) (by unfold maxLen; omega) (by unfold maxLen; omega) w
            have HM4 := fun w => Match_is (p := a ++ ⟨#[42]⟩) (s := a ++ p) (R := true) (plain_star HPA.out p) (by rw [ByteArray.size_append]; unfold maxLen; show a.size + 1 ≤ _; omega) (by rw [ByteArray.size_append]; unfold maxLen; omega) w
            have HM5 := fun w => Match_is (p := (⟨#[42]⟩ : ByteArray) ++ p) (s := a ++ p) (R := true) (star_plain HP.out a) (by rw [ByteArray.size_append]; unfold maxLen; show 1 + p.size ≤ _; omega) (by rw [ByteArray.size_append]; unfold maxLen; omega) w
            have HM6 := fun w => Match_is (p := (⟨#[42]⟩ : ByteArray) ++ a ++ ⟨#[42]⟩) (s := p ++ a ++ p) (R := true) (star_plain_star HPA.out p) (by rw [ByteArray.size_append, ByteArray.size_append]; unfold maxLen; show 1 + a.size + 1 ≤ _; omega) (by rw [ByteArray.size_append, ByteArray.size_append]; unfold maxLen; omega) w
            have HPl := fun w => Plain_any a w (by unfold maxLen; omega)
            rw [HPA.out] at HPl
            by_cases hap : lst a = lst p
            · have hq := beq_yes hap
              rw [decide_eq_true hap] at HM3
              clear hap
              go_wp2_with fail
              refine (HM1 _).mono ?_
              rintro e v1 ⟨hb, rfl⟩
              have H1 := step_below H0 hb
              clear hb
              go_wp2_with fail
              refine (HPl _).mono ?_
              rintro e v1 ⟨rfl, rfl⟩
              go_wp2_with fail
              refine (HM2 _).mono ?_
              rintro e v2 ⟨hb, rfl⟩
              have H2 := step_below H1 hb
              clear hb
              go_wp2_with fail
              refine (HM3 _).mono ?_
              rintro e v3 ⟨hb, rfl⟩
              have H3 := step_below H2 hb
              clear hb
              go_wp2_with fail
              refine (HM4 _).mono ?_
              rintro e v4 ⟨hb, rfl⟩
              have H4 := step_below H3 hb
              clear hb
              go_wp2_with fail
              refine (HM5 _).mono ?_
              rintro e v5 ⟨hb, rfl⟩
              have H5 := step_below H4 hb
              clear hb
              go_wp2_with fail
              refine (HM6 _).mono ?_
              rintro e v6 ⟨hb, rfl⟩
              have H6 := step_below H5 hb
              clear hb
              go_wp2_with fail
              refine (known_any _).mono ?_
              rintro e v7 ⟨hb, rfl⟩
              have H7 := step_below H6 hb
              clear hb
              go_wp2
              go_ret
              exact ⟨rfl, H7.out⟩
            · have hq := beq_no hap
              rw [decide_eq_false hap] at HM3
              clear hap
              go_wp2_with fail
              refine (HM1 _).mono ?_
              rintro e v1 ⟨hb, rfl⟩
              have H1 := step_below H0 hb
              clear hb
              go_wp2_with fail
              refine (HPl _).mono ?_
              rintro e v1 ⟨rfl, rfl⟩
              go_wp2_with fail
              refine (HM2 _).mono ?_
              rintro e v2 ⟨hb, rfl⟩
              have H2 := step_below H1 hb
              clear hb
              go_wp2_with fail
              refine (HM3 _).mono ?_
              rintro e v3 ⟨hb, rfl⟩
              have H3 := step_below H2 hb
              clear hb
              go_wp2_with fail
              refine (HM4 _).mono ?_
              rintro e v4 ⟨hb, rfl⟩
              have H4 := step_below H3 hb
              clear hb
              go_wp2_with fail
              refine (HM5 _).mono ?_
              rintro e v5 ⟨hb, rfl⟩
              have H5 := step_below H4 hb
              clear hb
              go_wp2_with fail
              refine (HM6 _).mono ?_
              rintro e v6 ⟨hb, rfl⟩
              have H6 := step_below H5 hb
              clear hb
              go_wp2_with fail
              refine (known_any _).mono ?_
              rintro e v7 ⟨hb, rfl⟩
              have H7 := step_below H6 hb
              clear hb
              go_wp2
              go_ret
              exact ⟨rfl, H7.out⟩
    · have hp20 : p.size ≤ 20 := by omega
      have HPA : Hid (plains (lst p) = true) := HP
      obtain ⟨a, ha⟩ : ∃ a, a = p := ⟨_, rfl⟩
      subst ha
      have ha20 : a.size ≤ 20 := hp20
      clear hp20 hp HP
      go_wp2
      go_loopg [6, 8] 20 (fun g pv iv wr => w = wr ∧ ∃ (k : Nat) (p : ByteArray), k + g = 20 ∧ pv = .string p ∧ iv = .int .i64 k ∧ p.size ≤ k ∧ Hid (plains (lst p) = true))
      case atStart => exact ⟨rfl, 0, ⟨#[]⟩, by omega, rfl, rfl, by decide, rfl⟩
      case round =>
        obtain ⟨rfl, k, p, hk, rfl, rfl, hp, HP⟩ := hrel
        by_cases hlt : k < t.size
        · by_cases h20 : k < 20
          · obtain ⟨c, hc⟩ : ∃ c : Int, ((t[k]'hlt).toNat : Int) = c := ⟨_, rfl⟩
            have hcb := byte_le _ hc
            have he := encode_small (97 + c % 26) (by omega) (by omega)
            have hes : (Utf8.encode (97 + c % 26)).size = 1 := by rw [he]; rfl
            have HS : Hid (plains (lst (p ++ Utf8.encode (97 + c % 26))) = true) := letter_snoc HP.out (by omega) (by omega) he
            clear he
            go_wp2
            go_roundg (gk - 1)
            case measure => omega
            case rel => exact ⟨rfl, k + 1, _, by omega, rfl, by go_num, by rw [ByteArray.size_append, hes]; omega, HS⟩
          · have hp20 : p.size ≤ 20 := by omega
            have HM2 := fun w => Match_is (p := a) (s := a) (R := true) (by rw [plain_self HPA.out]; simp) (by unfold maxLen; omega) (by unfold maxLen; omega) w
            have HM3 := fun w => Match_is (p := a) (s := p) (R := decide (lst a = lst p)) (plain_self HPA.out _) (by unfold maxLen; omega) (by unfold maxLen; omega) w
            have HM4 := fun w => Match_is (p := a ++ ⟨#[42]⟩) (s := a ++ p) (R := true) (plain_star HPA.out p) (by rw [ByteArray.size_append]; unfold maxLen; show a.size + 1 ≤ _; omega) (by rw [ByteArray.size_append]; unfold maxLen; omega) w
            have HM5 := fun w => Match_is (p := (⟨#[42]⟩ : ByteArray) ++ p) (s := a ++ p) (R := true) (star_plain HP.out a) (by rw [ByteArray.size_append]; unfold maxLen; show 1 + p.size ≤ _; omega) (by rw [ByteArray.size_append]; unfold maxLen; omega) w
            have HM6 := fun w => Match_is (p := (⟨#[42]⟩ : ByteArray) ++ a ++ ⟨#[42]⟩) (s := p ++ a ++ p) (R := true) (star_plain_star HPA.out p) (by rw [ByteArray.size_append, ByteArray.size_append]; unfold maxLen; show 1 + a.size + 1 ≤ _; omega) (by rw [ByteArray.size_append, ByteArray.size_append]; unfold maxLen; omega) w
            have HPl := fun w => Plain_any a w (by unfold maxLen; omega)
            rw [HPA.out] at HPl
            by_cases hap : lst a = lst p
            · have hq := beq_yes hap
              rw [decide_eq_true hap] at HM3
              clear hap
              go_wp2_with fail
              refine (HM1 _).mono ?_
              rintro e v1 ⟨hb, rfl⟩
              have H1 := step_below H0 hb
              clear hb
              go_wp2_with fail
              refine (HPl _).mono ?_
              rintro e v1 ⟨rfl, rfl⟩
              go_wp2_with fail
              refine (HM2 _).mono ?_
              rintro e v2 ⟨hb, rfl⟩
              have H2 := step_below H1 hb
              clear hb
              go_wp2_with fail
              refine (HM3 _).mono ?_
              rintro e v3 ⟨hb, rfl⟩
              have H3 := step_below H2 hb
              clear hb
              go_wp2_with fail
              refine (HM4 _).mono ?_
              rintro e v4 ⟨hb, rfl⟩
              have H4 := step_below H3 hb
              clear hb
              go_wp2_with fail
              refine (HM5 _).mono ?_
              rintro e v5 ⟨hb, rfl⟩
              have H5 := step_below H4 hb
              clear hb
              go_wp2_with fail
              refine (HM6 _).mono ?_
              rintro e v6 ⟨hb, rfl⟩
              have H6 := step_below H5 hb
              clear hb
              go_wp2_with fail
              refine (known_any _).mono ?_
              rintro e v7 ⟨hb, rfl⟩
              have H7 := step_below H6 hb
              clear hb
              go_wp2
              go_ret
              exact ⟨rfl, H7.out⟩
            · have hq := beq_no hap
              rw [decide_eq_false hap] at HM3
              clear hap
              go_wp2_with fail
              refine (HM1 _).mono ?_
              rintro e v1 ⟨hb, rfl⟩
              have H1 := step_below H0 hb
              clear hb
              go_wp2_with fail
              refine (HPl _).mono ?_
              rintro e v1 ⟨rfl, rfl⟩
              go_wp2_with fail
              refine (HM2 _).mono ?_
              rintro e v2 ⟨hb, rfl⟩
              have H2 := step_below H1 hb
              clear hb
              go_wp2_with fail
              refine (HM3 _).mono ?_
              rintro e v3 ⟨hb, rfl⟩
              have H3 := step_below H2 hb
              clear hb
              go_wp2_with fail
              refine (HM4 _).mono ?_
              rintro e v4 ⟨hb, rfl⟩
              have H4 := step_below H3 hb
              clear hb
              go_wp2_with fail
              refine (HM5 _).mono ?_
              rintro e v5 ⟨hb, rfl⟩
              have H5 := step_below H4 hb
              clear hb
              go_wp2_with fail
              refine (HM6 _).mono ?_
              rintro e v6 ⟨hb, rfl⟩
              have H6 := step_below H5 hb
              clear hb
              go_wp2_with fail
              refine (known_any _).mono ?_
              rintro e v7 ⟨hb, rfl⟩
              have H7 := step_below H6 hb
              clear hb
              go_wp2
              go_ret
              exact ⟨rfl, H7.out⟩
        · have hp20 : p.size ≤ 20 := by omega
          have HM2 := fun w => Match_is (p := a) (s := a) (R := true) (by rw [plain_self HPA.out]; simp) (by unfold maxLen; omega) (by unfold maxLen; omega) w
          have HM3 := fun w => Match_is (p := a) (s := p) (R := decide (lst a = lst p)) (plain_self HPA.out _) (by unfold maxLen; omega) (by unfold maxLen; omega) w
          have HM4 := fun w => Match_is (p := a ++ ⟨#[42]⟩) (s := a ++ p) (R := true) (plain_star HPA.out p) (by rw [ByteArray.size_append]; unfold maxLen; show a.size + 1 ≤ _; omega) (by rw [ByteArray.size_append]; unfold maxLen; omega) w
          have HM5 := fun w => Match_is (p := (⟨#[42]⟩ : ByteArray) ++ p) (s := a ++ p) (R := true) (star_plain HP.out a) (by rw [ByteArray.size_append]; unfold maxLen; show 1 + p.size ≤ _; omega) (by rw [ByteArray.size_append]; unfold maxLen; omega) w
          have HM6 := fun w => Match_is (p := (⟨#[42]⟩ : ByteArray) ++ a ++ ⟨#[42]⟩) (s := p ++ a ++ p) (R := true) (star_plain_star HPA.out p) (by rw [ByteArray.size_append, ByteArray.size_append]; unfold maxLen; show 1 + a.size + 1 ≤ _; omega) (by rw [ByteArray.size_append, ByteArray.size_append]; unfold maxLen; omega) w
          have HPl := fun w => Plain_any a w (by unfold maxLen; omega)
          rw [HPA.out] at HPl
          by_cases hap : lst a = lst p
          · have hq := beq_yes hap
            rw [decide_eq_true hap] at HM3
            clear hap
            go_wp2_with fail
            refine (HM1 _).mono ?_
            rintro e v1 ⟨hb, rfl⟩
            have H1 := step_below H0 hb
            clear hb
            go_wp2_with fail
            refine (HPl _).mono ?_
            rintro e v1 ⟨rfl, rfl⟩
            go_wp2_with fail
            refine (HM2 _).mono ?_
            rintro e v2 ⟨hb, rfl⟩
            have H2 := step_below H1 hb
            clear hb
            go_wp2_with fail
            refine (HM3 _).mono ?_
            rintro e v3 ⟨hb, rfl⟩
            have H3 := step_below H2 hb
            clear hb
            go_wp2_with fail
            refine (HM4 _).mono ?_
            rintro e v4 ⟨hb, rfl⟩
            have H4 := step_below H3 hb
            clear hb
            go_wp2_with fail
            refine (HM5 _).mono ?_
            rintro e v5 ⟨hb, rfl⟩
            have H5 := step_below H4 hb
            clear hb
            go_wp2_with fail
            refine (HM6 _).mono ?_
            rintro e v6 ⟨hb, rfl⟩
            have H6 := step_below H5 hb
            clear hb
            go_wp2_with fail
            refine (known_any _).mono ?_
            rintro e v7 ⟨hb, rfl⟩
            have H7 := step_below H6 hb
            clear hb
            go_wp2
            go_ret
            exact ⟨rfl, H7.out⟩
          · have hq := beq_no hap
            rw [decide_eq_false hap] at HM3
            clear hap
            go_wp2_with fail
            refine (HM1 _).mono ?_
            rintro e v1 ⟨hb, rfl⟩
            have H1 := step_below H0 hb
            clear hb
            go_wp2_with fail
            refine (HPl _).mono ?_
            rintro e v1 ⟨rfl, rfl⟩
            go_wp2_with fail
            refine (HM2 _).mono ?_
            rintro e v2 ⟨hb, rfl⟩
            have H2 := step_below H1 hb
            clear hb
            go_wp2_with fail
            refine (HM3 _).mono ?_
            rintro e v3 ⟨hb, rfl⟩
            have H3 := step_below H2 hb
            clear hb
            go_wp2_with fail
            refine (HM4 _).mono ?_
            rintro e v4 ⟨hb, rfl⟩
            have H4 := step_below H3 hb
            clear hb
            go_wp2_with fail
            refine (HM5 _).mono ?_
            rintro e v5 ⟨hb, rfl⟩
            have H5 := step_below H4 hb
            clear hb
            go_wp2_with fail
            refine (HM6 _).mono ?_
            rintro e v6 ⟨hb, rfl⟩
            have H6 := step_below H5 hb
            clear hb
            go_wp2_with fail
            refine (known_any _).mono ?_
            rintro e v7 ⟨hb, rfl⟩
            have H7 := step_below H6 hb
            clear hb
            go_wp2
            go_ret
            exact ⟨rfl, H7.out⟩
end Go.Proofs.Ytbmcnbhceogcjaa
