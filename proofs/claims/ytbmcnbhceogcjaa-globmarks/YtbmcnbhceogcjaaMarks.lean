/-
  The law GlobMarks, walked.
-/
import Derived.Test.YtbmcnbhceogcjaaKeep
namespace Go.Proofs.Ytbmcnbhceogcjaa
open Go.RowKit Go.PlainAid

def marks30 : ByteArray := ⟨#[63, 63, 63, 63, 63, 63, 63, 63, 63, 63, 63, 63, 63, 63, 63, 63, 63, 63, 63, 63, 63, 63, 63, 63, 63, 63, 63, 63, 63, 63]⟩
theorem marks_cut (z : Nat) (h : z ≤ 30) : marks30.extract 0 z = bs (List.replicate z 63) := by
  have : ∀ z : Fin 31, marks30.extract 0 z.1 = bs (List.replicate z.1 63) := by decide +kernel
  exact this ⟨z, by omega⟩

set_option maxRecDepth 100000 in
set_option maxHeartbeats 2000000 in
theorem marks_any (n : Int) (s : ByteArray) (w : World) :
    Calls Try.prog 8 #[.int .i64 n, .string s] w fun e w' => e = .returned (.bool true) ∧ Below w.heap.size w w' := by
  have H0 : Hid (Below w.heap.size w w) := Below.refl _ _
  go_enter Try.func8, Try.ntmps8
  go_wp2_with fail
  refine (Within_any n 30 _ (by omega) (by omega)).mono ?_
  rintro e w1 ⟨rfl, z, hz0, hz1, rfl⟩
  obtain ⟨Z, rfl⟩ : ∃ Z : Nat, (Z : Int) = z := ⟨z.toNat, by omega⟩
  have hzc : (⟨#[63, 63, 63, 63, 63, 63, 63, 63, 63, 63, 63, 63, 63, 63, 63, 63, 63, 63, 63, 63, 63, 63, 63, 63, 63, 63, 63, 63, 63, 63]⟩ : ByteArray).extract 0 Z = bs (List.replicate Z 63) := marks_cut Z (by omega)
  have hsz : (bs (List.replicate Z 63)).size = Z := by rw [size_bs]; simp
  have hts := size_cutB s 35 (by omega)
  have HM1 := fun w => Match_is (p := bs (List.replicate Z 63)) (s := cutB s 35) (R := decide ((cutB s 35).size = Z)) (by rw [lst_bs, marks_just, len_lst]) (by unfold maxLen; omega) (by unfold maxLen; omega) w
  have HM2 := fun w => Match_is (p := bs (List.replicate Z 63) ++ ⟨#[42]⟩) (s := cutB s 35) (R := decide (Z ≤ (cutB s 35).size)) (by rw [show (⟨#[42]⟩ : ByteArray) = bs [42] from rfl, append_bs, lst_bs, marks_star, len_lst]) (by rw [ByteArray.size_append, hsz]; unfold maxLen; show Z + 1 ≤ _; omega) (by unfold maxLen; omega) w
  have HM3 := fun w => Match_is (p := (⟨#[42]⟩ : ByteArray) ++ bs (List.replicate Z 63)) (s := cutB s 35) (R := decide (Z ≤ (cutB s 35).size)) (by rw [show (⟨#[42]⟩ : ByteArray) = bs [42] from rfl, append_bs, lst_bs, List.cons_append, List.nil_append, star_marks, len_lst]) (by rw [ByteArray.size_append, hsz]; unfold maxLen; show 1 + Z ≤ _; omega) (by unfold maxLen; omega) w
  have hzs : (bs (List.replicate Z 63)).size ≤ 30 := by omega
  clear hsz
  generalize bs (List.replicate Z 63) = zb at hzc hzs HM1 HM2 HM3
  go_wp2_with fail
  refine (Cut_any s 35 _ (by decide)).mono ?_
  rintro e w2 ⟨rfl, rfl⟩
  generalize cutB s 35 = t at hts HM1 HM2 HM3
  clear hzc
  rcases Nat.lt_trichotomy t.size Z with hlt | heq | hgt
  · have hq1 : ((t.size : Int) == (Z : Int)) = false := by simp; omega
    have hq2 : decide (Z ≤ t.size) = false := by simp; omega
    rw [decide_eq_false (by omega : ¬ t.size = Z)] at HM1
    rw [decide_eq_false (by omega : ¬ Z ≤ t.size)] at HM2 HM3
    go_wp2_with fail
    refine (HM1 _).mono ?_
    rintro e w3 ⟨hb, rfl⟩
    have H1 := step_below H0 hb
    clear hb
    go_wp2_with fail
    refine (HM2 _).mono ?_
    rintro e w4 ⟨hb, rfl⟩
    have H2 := step_below H1 hb
    clear hb
    go_wp2_with fail
    refine (HM3 _).mono ?_
    rintro e w5 ⟨hb, rfl⟩
    have H3 := step_below H2 hb
    clear hb
    go_wp2_with fail
    refine (known_any _).mono ?_
    rintro e w6 ⟨hb, rfl⟩
    have H4 := step_below H3 hb
    clear hb
    go_wp2
    go_ret
    exact ⟨rfl, H4.out⟩
  · rw [decide_eq_true (by omega : t.size = Z)] at HM1
    rw [decide_eq_true (by omega : Z ≤ t.size)] at HM2 HM3
    go_wp2_with fail
    refine (HM1 _).mono ?_
    rintro e w3 ⟨hb, rfl⟩
    have H1 := step_below H0 hb
    clear hb
    go_wp2_with fail
    refine (HM2 _).mono ?_
    rintro e w4 ⟨hb, rfl⟩
    have H2 := step_below H1 hb
    clear hb
    go_wp2_with fail
    refine (HM3 _).mono ?_
    rintro e w5 ⟨hb, rfl⟩
    have H3 := step_below H2 hb
    clear hb
    go_wp2_with fail
    refine (known_any _).mono ?_
    rintro e w6 ⟨hb, rfl⟩
    have H4 := step_below H3 hb
    clear hb
    go_wp2
    go_ret
    exact ⟨rfl, H4.out⟩
  · have hq1 : ((t.size : Int) == (Z : Int)) = false := by simp; omega
    rw [decide_eq_false (by omega : ¬ t.size = Z)] at HM1
    rw [decide_eq_true (by omega : Z ≤ t.size)] at HM2 HM3
    go_wp2_with fail
    refine (HM1 _).mono ?_
    rintro e w3 ⟨hb, rfl⟩
    have H1 := step_below H0 hb
    clear hb
    go_wp2_with fail
    refine (HM2 _).mono ?_
    rintro e w4 ⟨hb, rfl⟩
    have H2 := step_below H1 hb
    clear hb
    go_wp2_with fail
    refine (HM3 _).mono ?_
    rintro e w5 ⟨hb, rfl⟩
    have H3 := step_below H2 hb
    clear hb
    go_wp2_with fail
    refine (known_any _).mono ?_
    rintro e w6 ⟨hb, rfl⟩
    have H4 := step_below H3 hb
    clear hb
    go_wp2
    go_ret
    exact ⟨rfl, H4.out⟩
end Go.Proofs.Ytbmcnbhceogcjaa
