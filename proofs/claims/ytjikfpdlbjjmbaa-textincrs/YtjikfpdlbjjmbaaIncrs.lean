/-
  The law TextIncrs, walked.
-/
import Derived.Test.YtjikfpdlbjjmbaaTells
namespace Go.Proofs.Ytjikfpdlbjjmbaa
open Go.RowKit Go.PlainAid

theorem incr_fmt (n d : Int) (hn : Int64 n) : incrR (bs (fmtL n)) d = match addO n d with
    | none => .tuple #[.string ⟨#[]⟩, .int .i64 0, .int .i64 6]
    | some m => .tuple #[.string (bs (fmtL m)), .int .i64 m, .int .i64 0] := by
  have ho : numO (bs (fmtL n)) = some n := by
    unfold numO
    have hp := parseL_fmtL hn.1 hn.2
    rw [if_neg, lst_bs]
    · exact hp
    · intro h
      rw [size_bs] at h
      have : fmtL n = [] := List.length_eq_zero_iff.1 h
      rw [this, show parseL [] = none by decide +kernel] at hp
      cases hp
  unfold incrR
  rw [ho]
  dsimp only
  cases addO n d <;> rfl

theorem fmt_small (n : Int) (hn : Int64 n) : (bs (fmtL n)).size ≤ maxLen := by
  have := fmtL_len hn.1 hn.2
  rw [size_bs]; unfold maxLen; omega

set_option maxRecDepth 100000 in
set_option maxHeartbeats 4000000 in
theorem incrs_any (n d : Int) (w : World) (hn : Int64 n) (hd : Int64 d) :
    Calls Try.prog 8 #[.int .i64 n, .int .i64 d] w fun e w' => e = .returned (.bool true) ∧ Below w.heap.size w w' := by
  have HF := fun w => refFormat_any n w hn.1 hn.2
  have HI := fun w => Incr_any (bs (fmtL n)) d w (fmt_small n hn) hd
  rw [incr_fmt n d hn] at HI
  have H0 : Hid (Below w.heap.size w w) := Below.refl _ _
  cases ha : addO n d with
  | none =>
    rw [ha] at HI
    dsimp only at HI
    have hno : ¬ (-9223372036854775808 ≤ n + d ∧ n + d < 9223372036854775808) := by
      intro h
      unfold addO at ha; rw [if_pos h] at ha; cases ha
    generalize bs (fmtL n) = f at HF HI
    unfold Int64 at hn hd
    clear ha
    by_cases hp : 0 < d
    · have hg : 9223372036854775807 - d < n := by omega
      clear hno
      go_enter Try.func8, Try.ntmps8
      go_wp2_with fail
      refine (HF _).mono ?_
      rintro e w0 ⟨rfl, rfl⟩
      go_wp2_with fail
      refine (HI _).mono ?_
      rintro e w1 ⟨rfl, hb⟩
      have HB1 := step_below H0 hb
      clear hb
      go_wp2_with fail
      refine (known_any _).mono ?_
      rintro e w2 ⟨rfl, hb⟩
      have HB2 := step_below HB1 hb
      clear hb
      go_wp2
      go_ret
      exact ⟨rfl, HB2.out⟩
    · have hl : d < 0 := by omega
      have hg : n < -9223372036854775808 - d := by omega
      clear hno
      go_enter Try.func8, Try.ntmps8
      go_wp2_with fail
      refine (HF _).mono ?_
      rintro e w0 ⟨rfl, rfl⟩
      go_wp2_with fail
      refine (HI _).mono ?_
      rintro e w1 ⟨rfl, hb⟩
      have HB1 := step_below H0 hb
      clear hb
      go_wp2_with fail
      refine (known_any _).mono ?_
      rintro e w2 ⟨rfl, hb⟩
      have HB2 := step_below HB1 hb
      clear hb
      go_wp2
      go_ret
      exact ⟨rfl, HB2.out⟩
  | some m =>
    rw [ha] at HI
    dsimp only at HI
    obtain ⟨hm, hmn⟩ := addO_in ha
    have HFm := fun w => refFormat_any m w hm.1 hm.2
    by_cases hmin : d = -9223372036854775808
    · subst hmin
      generalize bs (fmtL n) = f at HF HI
      generalize bs (fmtL m) = g at HFm HI
      clear ha hmn hn hd hm
      go_enter Try.func8, Try.ntmps8
      go_wp2_with fail
      refine (HF _).mono ?_
      rintro e w0 ⟨rfl, rfl⟩
      go_wp2_with fail
      refine (HI _).mono ?_
      rintro e w1 ⟨rfl, hb⟩
      have HB1 := step_below H0 hb
      clear hb
      go_wp2_with fail
      refine (HFm _).mono ?_
      rintro e w1 ⟨rfl, rfl⟩
      go_wp2_with fail
      refine (HFm _).mono ?_
      rintro e w1 ⟨rfl, rfl⟩
      go_wp2_with fail
      refine (known_any _).mono ?_
      rintro e w2 ⟨rfl, hb⟩
      have HB2 := step_below HB1 hb
      clear hb
      go_wp2
      go_ret
      exact ⟨rfl, HB2.out⟩
    · have hdn : Int64 (-d) := by unfold Int64 at hd ⊢; omega
      have HJ := fun w => Incr_any (bs (fmtL m)) (-d) w (fmt_small m hm) hdn
      rw [incr_fmt m (-d) hm, show addO m (-d) = some n by
        unfold addO Int64 at *
        rw [if_pos (by omega)]; congr 1; omega] at HJ
      dsimp only at HJ
      have hq : (d == -9223372036854775808) = false := by simpa using hmin
      generalize bs (fmtL n) = f at HF HI HJ
      generalize bs (fmtL m) = g at HFm HI HJ
      have hd' : -9223372036854775807 ≤ d ∧ d ≤ 9223372036854775807 := by unfold Int64 at hd; omega
      clear ha hmn hn hm hmin hdn hd
      go_enter Try.func8, Try.ntmps8
      go_wp2_with fail
      refine (HF _).mono ?_
      rintro e w0 ⟨rfl, rfl⟩
      go_wp2_with fail
      refine (HI _).mono ?_
      rintro e w1 ⟨rfl, hb⟩
      have HB1 := step_below H0 hb
      clear hb
      go_wp2_with fail
      refine (HFm _).mono ?_
      rintro e w1 ⟨rfl, rfl⟩
      go_wp2_with fail
      refine (HJ _).mono ?_
      rintro e w2 ⟨rfl, hb⟩
      have HB2 := step_below HB1 hb
      clear hb
      go_wp2_with fail
      refine (HF _).mono ?_
      rintro e w2 ⟨rfl, rfl⟩
      go_wp2_with fail
      refine (known_any _).mono ?_
      rintro e w3 ⟨rfl, hb⟩
      have HB3 := step_below HB2 hb
      clear hb
      go_wp2
      go_ret
      exact ⟨rfl, HB3.out⟩
end Go.Proofs.Ytjikfpdlbjjmbaa
