/-
  The law TextTells, walked.
-/
import Derived.Test.YtjikfpdlbjjmbaaKnw
namespace Go.Proofs.Ytjikfpdlbjjmbaa
open Go.RowKit Go.PlainAid

theorem cut_le (s : ByteArray) (n : Nat) : (cutB s n).size ≤ n := by
  unfold cutB
  split
  · simp; omega
  · omega

set_option maxRecDepth 100000 in
set_option maxHeartbeats 4000000 in
theorem tells_any (s t : ByteArray) (a b d bit : Int) (w : World) (ha : I64 a) (hb : I64 b) (hd : I64 d) :
    Calls Try.prog 4 #[.string s, .string t, .int .i64 a, .int .i64 b, .int .i64 d, .int .i64 bit] w fun e w' => e = .returned (.bool true) ∧ Below w.heap.size w w' := by
  have HC1 := fun w => Cut_any s 100 w (by decide)
  have HC2 := fun w => Cut_any t 30 w (by decide)
  have h1 := cut_le s 100
  have h2 := cut_le t 30
  simp only [Int.cast_ofNat_Int] at h1 h2
  generalize cutB s 100 = s1 at HC1 h1
  generalize cutB t 30 = t1 at HC2 h2
  have HW1 := fun w => WithinZ_any a (-120) 120 w (by omega) (by omega) (by omega)
  have HW2 := fun w => WithinZ_any b (-120) 120 w (by omega) (by omega) (by omega)
  have HAp := fun w => Append_any s1 t1 w (by omega) (by omega) (by omega)
  have HRa := fun w => ranges_any s1 a b w ha hb (by omega)
  have HRm := fun (m n : Int) (hm : -120 ≤ m ∧ m ≤ 120) (hn : -120 ≤ n ∧ n ≤ 120) w => ranges_any s1 m n w (by unfold I64; omega) (by unfold I64; omega) (by omega)
  have HSa := fun w => sets_any s1 a t1 bit w ha (by omega) (by omega)
  have HS8 := fun (m : Int) (hm : -120 ≤ m ∧ m ≤ 120) w => sets_any s1 (m * 8) t1 bit w (by unfold I64; omega) (by omega) (by omega)
  have HS1 := fun (m : Int) (hm : -120 ≤ m ∧ m ≤ 120) w => sets_any s1 m t1 1 w (by unfold I64; omega) (by omega) (by omega)
  have HA1 := fun w => adds_any s1 d w (by unfold maxLen; omega) (by unfold Int64; unfold I64 at hd; omega)
  have HA2 := fun w => adds_any t1 a w (by unfold maxLen; omega) (by unfold Int64; unfold I64 at ha; omega)
  have hsum : (s1 ++ t1).size ≤ 130 := by rw [ByteArray.size_append]; omega
  generalize hX : s1 ++ t1 = X at HAp hsum
  have H0 : Hid (Below w.heap.size w w) := Below.refl _ _
  clear ha hb hd
  go_enter Try.func4, Try.ntmps4
  go_wp2_with fail
  refine (HC1 _).mono ?_
  rintro e w0 ⟨rfl, rfl⟩
  go_wp2_with fail
  refine (HC2 _).mono ?_
  rintro e w0 ⟨rfl, rfl⟩
  go_wp2_with fail
  refine (HW1 _).mono ?_
  rintro e w0 ⟨rfl, m, hm1, hm2, rfl⟩
  have hm : -120 ≤ m ∧ m ≤ 120 := ⟨hm1, hm2⟩
  go_wp2_with fail
  refine (HW2 _).mono ?_
  rintro e w0 ⟨rfl, n, hn1, hn2, rfl⟩
  have hn : -120 ≤ n ∧ n ≤ 120 := ⟨hn1, hn2⟩
  replace HRm := HRm m n hm hn
  replace HS8 := HS8 m hm
  replace HS1 := HS1 m hm
  clear hm hn
  go_wp2_with fail
  refine (HAp _).mono ?_
  rintro e w0 ⟨rfl, rfl⟩
  go_wp2_with fail
  refine (HRa _).mono ?_
  rintro e w1 ⟨rfl, hb⟩
  have HB1 := step_below H0 hb
  clear hb
  go_wp2_with fail
  refine (HRm _).mono ?_
  rintro e w2 ⟨rfl, hb⟩
  have HB2 := step_below HB1 hb
  clear hb
  go_wp2_with fail
  refine (HSa _).mono ?_
  rintro e w3 ⟨rfl, hb⟩
  have HB3 := step_below HB2 hb
  clear hb
  go_wp2_with fail
  refine (HS8 _).mono ?_
  rintro e w4 ⟨rfl, hb⟩
  have HB4 := step_below HB3 hb
  clear hb
  go_wp2_with fail
  refine (HS1 _).mono ?_
  rintro e w5 ⟨rfl, hb⟩
  have HB5 := step_below HB4 hb
  clear hb
  go_wp2_with fail
  refine (HA1 _).mono ?_
  rintro e w6 ⟨rfl, hb⟩
  have HB6 := step_below HB5 hb
  clear hb
  go_wp2_with fail
  refine (HA2 _).mono ?_
  rintro e w7 ⟨rfl, hb⟩
  have HB7 := step_below HB6 hb
  clear hb
  go_wp2_with fail
  refine (known_any _).mono ?_
  rintro e w8 ⟨rfl, hb⟩
  have HB8 := step_below HB7 hb
  clear hb
  go_wp2
  go_ret
  exact ⟨rfl, HB8.out⟩
end Go.Proofs.Ytjikfpdlbjjmbaa
