/-
  The law EntrySizes, walked.
-/
import Derived.Test.YtdlnodedikiamaaKeep
namespace Go.Proofs.Ytdlnodedikiamaa
open Go.RowKit Go.PlainAid

theorem parse_t (r : List UInt8) : parseL (116 :: r) = none := by
  have h0 : ∀ n, rd n (116 :: r) = none := fun n => by simp [rd]
  have h1 : plainL (116 :: r) = none := by
    unfold plainL digitsL
    split
    · rfl
    · rw [if_neg (by simp), h0]
  unfold parseL
  simp [h1]

theorem enc_num {n : Int} (h1 : -9223372036854775808 ≤ n) (h2 : n < 9223372036854775808) : (enc (fmtL n)).length = if 0 ≤ n ∧ n ≤ 127 then 2 else 10 := by
  have hp := parseL_fmtL h1 h2
  unfold enc
  rw [List.length_append, back_len]
  by_cases h : 0 ≤ n ∧ n ≤ 127
  · rw [body_small hp h, if_pos h]; rfl
  · rw [body_wide hp h, List.length_cons, be_len, if_neg h]; rfl
theorem enc_text {l : List UInt8} (h : parseL l = none) : (enc l).length = l.length + (if l.length ≤ 63 then 2 else if l.length ≤ 124 then 4 else 5) := by
  unfold enc
  rw [List.length_append, back_len]
  by_cases h1 : l.length ≤ 63
  · rw [body_short h h1, List.length_cons, if_pos (by omega), if_pos h1]
  · rw [body_long h h1, List.length_cons, List.length_cons, List.length_cons, if_neg h1]
    by_cases h2 : l.length ≤ 124
    · rw [if_pos (by omega), if_pos h2]
    · rw [if_neg (by omega), if_neg h2]

set_option maxRecDepth 100000 in
set_option maxHeartbeats 4000000 in
theorem sizes_any (n : Int) (s : ByteArray) (w : World) (h1 : -9223372036854775808 ≤ n) (h2 : n < 9223372036854775808) :
    Calls Try.prog 7 #[.int .i64 n, .string s] w fun e w' => e = .returned (.bool true) ∧ Below w.heap.size w w' := by
  have HF := fun w => refFormat_any n w h1 h2
  have hfl := fmtL_len h1 h2
  have HZ := fun w => Size_any (bs (fmtL n)) w (by rw [size_bs]; omega)
  rw [lst_bs, enc_num h1 h2] at HZ
  have HC := fun w => Cut_any s 500 w (by decide)
  have hcs := size_cutB s 500 (by decide)
  obtain ⟨c, hc⟩ : ∃ c, cutB s 500 = c := ⟨_, rfl⟩
  rw [hc] at HC hcs
  have hts : ((⟨#[116]⟩ : ByteArray) ++ c).size = c.size + 1 := by rw [ByteArray.size_append]; show 1 + c.size = _; omega
  have hlt : lst ((⟨#[116]⟩ : ByteArray) ++ c) = 116 :: lst c := by
    rw [show (⟨#[116]⟩ : ByteArray) ++ c = bs (116 :: lst c) from cons_bs 116 (lst c)]; rfl
  have HZ2 := fun w => Size_any ((⟨#[116]⟩ : ByteArray) ++ c) w (by rw [hts]; omega)
  rw [hlt, enc_text (parse_t _), List.length_cons, len_lst] at HZ2
  have HK := fun w => known_any w
  have H0 : Hid (Below w.heap.size w w) := Below.refl _ _
  obtain ⟨S, hS⟩ : ∃ S, (⟨#[116]⟩ : ByteArray) ++ c = S := ⟨_, rfl⟩
  rw [hS] at hts HZ2
  have hSz : (S.size : Int) = c.size + 1 := by omega
  generalize bs (fmtL n) = T at HF HZ
  obtain ⟨k, hk⟩ : ∃ k, c.size + 1 = k := ⟨_, rfl⟩
  rw [hk] at HZ2 hts
  have hkz : (S.size : Int) = k := by omega
  have hk5 : (k : Int) ≤ 501 := by omega
  have hk1 : (1 : Int) ≤ k := by omega
  have hc5 : (c.size : Int) ≤ 500 := by omega
  clear hc hcs hts hlt hSz hfl hk
  by_cases hn : 0 ≤ n ∧ n ≤ 127
  · rw [if_pos hn] at HZ
    obtain ⟨hn1, hn2⟩ := hn
    by_cases hk63 : k ≤ 63
    · rw [if_pos hk63] at HZ2
      have hd : ((k + 2 : Nat) : Int) = (k : Int) + 2 := by omega
      rw [hd] at HZ2
      have hz1 : (k : Int) ≤ 63 := by omega
      clear hd hk63
      go_enter Try.func7, Try.ntmps7
      go_wp2_with fail
      refine (HF _).mono ?_
      rintro e w ⟨rfl, rfl⟩
      go_wp2_with fail
      refine (HZ _).mono ?_
      rintro e w1 ⟨hb, rfl⟩
      have G1 := step_below H0 hb
      clear hb
      go_wp2_with fail
      refine (HC _).mono ?_
      rintro e w1 ⟨rfl, rfl⟩
      go_wp2_with fail
      refine (HZ2 _).mono ?_
      rintro e w2 ⟨hb, rfl⟩
      have G2 := step_below G1 hb
      clear hb
      go_wp2_with fail
      refine (HK _).mono ?_
      rintro e w3 ⟨hb, rfl⟩
      have G3 := step_below G2 hb
      clear hb
      go_wp2
      go_ret
      exact ⟨rfl, G3.out⟩
    by_cases hk124 : k ≤ 124
    · rw [if_neg hk63, if_pos hk124] at HZ2
      have hd : ((k + 4 : Nat) : Int) = (k : Int) + 4 := by omega
      rw [hd] at HZ2
      have hz1 : ¬ (k : Int) ≤ 63 := by omega
      have hz1' : 63 < (k : Int) := by omega
      have hz2 : (k : Int) ≤ 124 := by omega
      clear hd hk63 hk124
      go_enter Try.func7, Try.ntmps7
      go_wp2_with fail
      refine (HF _).mono ?_
      rintro e w ⟨rfl, rfl⟩
      go_wp2_with fail
      refine (HZ _).mono ?_
      rintro e w1 ⟨hb, rfl⟩
      have G1 := step_below H0 hb
      clear hb
      go_wp2_with fail
      refine (HC _).mono ?_
      rintro e w1 ⟨rfl, rfl⟩
      go_wp2_with fail
      refine (HZ2 _).mono ?_
      rintro e w2 ⟨hb, rfl⟩
      have G2 := step_below G1 hb
      clear hb
      go_wp2_with fail
      refine (HK _).mono ?_
      rintro e w3 ⟨hb, rfl⟩
      have G3 := step_below G2 hb
      clear hb
      go_wp2
      go_ret
      exact ⟨rfl, G3.out⟩
    · rw [if_neg hk63, if_neg hk124] at HZ2
      have hd : ((k + 5 : Nat) : Int) = (k : Int) + 5 := by omega
      rw [hd] at HZ2
      have hz1 : ¬ (k : Int) ≤ 63 := by omega
      have hz1' : 63 < (k : Int) := by omega
      have hz2 : ¬ (k : Int) ≤ 124 := by omega
      have hz2' : 124 < (k : Int) := by omega
      clear hd hk63 hk124
      go_enter Try.func7, Try.ntmps7
      go_wp2_with fail
      refine (HF _).mono ?_
      rintro e w ⟨rfl, rfl⟩
      go_wp2_with fail
      refine (HZ _).mono ?_
      rintro e w1 ⟨hb, rfl⟩
      have G1 := step_below H0 hb
      clear hb
      go_wp2_with fail
      refine (HC _).mono ?_
      rintro e w1 ⟨rfl, rfl⟩
      go_wp2_with fail
      refine (HZ2 _).mono ?_
      rintro e w2 ⟨hb, rfl⟩
      have G2 := step_below G1 hb
      clear hb
      go_wp2_with fail
      refine (HK _).mono ?_
      rintro e w3 ⟨hb, rfl⟩
      have G3 := step_below G2 hb
      clear hb
      go_wp2
      go_ret
      exact ⟨rfl, G3.out⟩
  · rw [if_neg hn] at HZ
    by_cases hn1 : 0 ≤ n
    · have hn2 : ¬ n ≤ 127 := by omega
      have hn3 : 127 < n := by omega
      clear hn
      by_cases hk63 : k ≤ 63
      · rw [if_pos hk63] at HZ2
        have hd : ((k + 2 : Nat) : Int) = (k : Int) + 2 := by omega
        rw [hd] at HZ2
        have hz1 : (k : Int) ≤ 63 := by omega
        clear hd hk63
        go_enter Try.func7, Try.ntmps7
        go_wp2_with fail
        refine (HF _).mono ?_
        rintro e w ⟨rfl, rfl⟩
        go_wp2_with fail
        refine (HZ _).mono ?_
        rintro e w1 ⟨hb, rfl⟩
        have G1 := step_below H0 hb
        clear hb
        go_wp2_with fail
        refine (HC _).mono ?_
        rintro e w1 ⟨rfl, rfl⟩
        go_wp2_with fail
        refine (HZ2 _).mono ?_
        rintro e w2 ⟨hb, rfl⟩
        have G2 := step_below G1 hb
        clear hb
        go_wp2_with fail
        refine (HK _).mono ?_
        rintro e w3 ⟨hb, rfl⟩
        have G3 := step_below G2 hb
        clear hb
        go_wp2
        go_ret
        exact ⟨rfl, G3.out⟩
      by_cases hk124 : k ≤ 124
      · rw [if_neg hk63, if_pos hk124] at HZ2
        have hd : ((k + 4 : Nat) : Int) = (k : Int) + 4 := by omega
        rw [hd] at HZ2
        have hz1 : ¬ (k : Int) ≤ 63 := by omega
        have hz1' : 63 < (k : Int) := by omega
        have hz2 : (k : Int) ≤ 124 := by omega
        clear hd hk63 hk124
        go_enter Try.func7, Try.ntmps7
        go_wp2_with fail
        refine (HF _).mono ?_
        rintro e w ⟨rfl, rfl⟩
        go_wp2_with fail
        refine (HZ _).mono ?_
        rintro e w1 ⟨hb, rfl⟩
        have G1 := step_below H0 hb
        clear hb
        go_wp2_with fail
        refine (HC _).mono ?_
        rintro e w1 ⟨rfl, rfl⟩
        go_wp2_with fail
        refine (HZ2 _).mono ?_
        rintro e w2 ⟨hb, rfl⟩
        have G2 := step_below G1 hb
        clear hb
        go_wp2_with fail
        refine (HK _).mono ?_
        rintro e w3 ⟨hb, rfl⟩
        have G3 := step_below G2 hb
        clear hb
        go_wp2
        go_ret
        exact ⟨rfl, G3.out⟩
      · rw [if_neg hk63, if_neg hk124] at HZ2
        have hd : ((k + 5 : Nat) : Int) = (k : Int) + 5 := by omega
        rw [hd] at HZ2
        have hz1 : ¬ (k : Int) ≤ 63 := by omega
        have hz1' : 63 < (k : Int) := by omega
        have hz2 : ¬ (k : Int) ≤ 124 := by omega
        have hz2' : 124 < (k : Int) := by omega
        clear hd hk63 hk124
        go_enter Try.func7, Try.ntmps7
        go_wp2_with fail
        refine (HF _).mono ?_
        rintro e w ⟨rfl, rfl⟩
        go_wp2_with fail
        refine (HZ _).mono ?_
        rintro e w1 ⟨hb, rfl⟩
        have G1 := step_below H0 hb
        clear hb
        go_wp2_with fail
        refine (HC _).mono ?_
        rintro e w1 ⟨rfl, rfl⟩
        go_wp2_with fail
        refine (HZ2 _).mono ?_
        rintro e w2 ⟨hb, rfl⟩
        have G2 := step_below G1 hb
        clear hb
        go_wp2_with fail
        refine (HK _).mono ?_
        rintro e w3 ⟨hb, rfl⟩
        have G3 := step_below G2 hb
        clear hb
        go_wp2
        go_ret
        exact ⟨rfl, G3.out⟩
    · have hn3 : n < 0 := by omega
      clear hn
      by_cases hk63 : k ≤ 63
      · rw [if_pos hk63] at HZ2
        have hd : ((k + 2 : Nat) : Int) = (k : Int) + 2 := by omega
        rw [hd] at HZ2
        have hz1 : (k : Int) ≤ 63 := by omega
        clear hd hk63
        go_enter Try.func7, Try.ntmps7
        go_wp2_with fail
        refine (HF _).mono ?_
        rintro e w ⟨rfl, rfl⟩
        go_wp2_with fail
        refine (HZ _).mono ?_
        rintro e w1 ⟨hb, rfl⟩
        have G1 := step_below H0 hb
        clear hb
        go_wp2_with fail
        refine (HC _).mono ?_
        rintro e w1 ⟨rfl, rfl⟩
        go_wp2_with fail
        refine (HZ2 _).mono ?_
        rintro e w2 ⟨hb, rfl⟩
        have G2 := step_below G1 hb
        clear hb
        go_wp2_with fail
        refine (HK _).mono ?_
        rintro e w3 ⟨hb, rfl⟩
        have G3 := step_below G2 hb
        clear hb
        go_wp2
        go_ret
        exact ⟨rfl, G3.out⟩
      by_cases hk124 : k ≤ 124
      · rw [if_neg hk63, if_pos hk124] at HZ2
        have hd : ((k + 4 : Nat) : Int) = (k : Int) + 4 := by omega
        rw [hd] at HZ2
        have hz1 : ¬ (k : Int) ≤ 63 := by omega
        have hz1' : 63 < (k : Int) := by omega
        have hz2 : (k : Int) ≤ 124 := by omega
        clear hd hk63 hk124
        go_enter Try.func7, Try.ntmps7
        go_wp2_with fail
        refine (HF _).mono ?_
        rintro e w ⟨rfl, rfl⟩
        go_wp2_with fail
        refine (HZ _).mono ?_
        rintro e w1 ⟨hb, rfl⟩
        have G1 := step_below H0 hb
        clear hb
        go_wp2_with fail
        refine (HC _).mono ?_
        rintro e w1 ⟨rfl, rfl⟩
        go_wp2_with fail
        refine (HZ2 _).mono ?_
        rintro e w2 ⟨hb, rfl⟩
        have G2 := step_below G1 hb
        clear hb
        go_wp2_with fail
        refine (HK _).mono ?_
        rintro e w3 ⟨hb, rfl⟩
        have G3 := step_below G2 hb
        clear hb
        go_wp2
        go_ret
        exact ⟨rfl, G3.out⟩
      · rw [if_neg hk63, if_neg hk124] at HZ2
        have hd : ((k + 5 : Nat) : Int) = (k : Int) + 5 := by omega
        rw [hd] at HZ2
        have hz1 : ¬ (k : Int) ≤ 63 := by omega
        have hz1' : 63 < (k : Int) := by omega
        have hz2 : ¬ (k : Int) ≤ 124 := by omega
        have hz2' : 124 < (k : Int) := by omega
        clear hd hk63 hk124
        go_enter Try.func7, Try.ntmps7
        go_wp2_with fail
        refine (HF _).mono ?_
        rintro e w ⟨rfl, rfl⟩
        go_wp2_with fail
        refine (HZ _).mono ?_
        rintro e w1 ⟨hb, rfl⟩
        have G1 := step_below H0 hb
        clear hb
        go_wp2_with fail
        refine (HC _).mono ?_
        rintro e w1 ⟨rfl, rfl⟩
        go_wp2_with fail
        refine (HZ2 _).mono ?_
        rintro e w2 ⟨hb, rfl⟩
        have G2 := step_below G1 hb
        clear hb
        go_wp2_with fail
        refine (HK _).mono ?_
        rintro e w3 ⟨hb, rfl⟩
        have G3 := step_below G2 hb
        clear hb
        go_wp2
        go_ret
        exact ⟨rfl, G3.out⟩
end Go.Proofs.Ytdlnodedikiamaa
