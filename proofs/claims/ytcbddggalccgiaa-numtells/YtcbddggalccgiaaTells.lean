/-
  The law NumTells, walked.
-/
import Derived.Test.YtcbddggalccgiaaSums
namespace Go.Proofs.Ytcbddggalccgiaa
open Go.RowKit Go.PlainAid

theorem small_bs (l : List UInt8) (h : l.length ≤ 21) : (bs l).size ≤ maxLen := by
  rw [size_bs]; unfold maxLen; omega

theorem beq_refl_bytes (b : ByteArray) : (b.toList == b.toList) = true := by simp

set_option maxHeartbeats 1000000 in
theorem tells_any (a b : Int) (u : Nat) (s : ByteArray) (w : World) (ha : Int64 a) (hb : Int64 b) (hu : u < 18446744073709551616) :
    Calls Try.prog 4 #[.int .i64 a, .int .i64 b, .int .u64 u, .string s] w fun e w' => e = .returned (.bool true) ∧ Below w.heap.size w w' := by
  have HA : Hid (Int64 a) := ha
  have HB : Hid (Int64 b) := hb
  have HU : Hid (u < 18446744073709551616) := hu
  have hz : Hid ((cutB s 30).size ≤ maxLen) := by
    have := size_cutB s
    show _ ≤ _
    unfold maxLen; omega
  have HF := fun w => Format_any a w ha.1 ha.2
  have HRF := fun w => refFormat_any a w ha.1 ha.2
  have HP := fun w => parses_any (bs (fmtL a)) w (small_bs _ (fmtL_len ha.1 ha.2))
  have HUn := fun w => Unsigned_any u w hu
  have HRU := fun w => refUnsigned_any u w hu
  have HPU := fun w => parses_any (bs (dec u)) w (small_bs _ (by have := dec_len20 hu; omega))
  generalize bs (fmtL a) = f at HF HRF HP
  generalize bs (dec u) = d at HUn HRU HPU
  clear ha hb hu
  go_enter Try.func4, Try.ntmps4
  go_wp2_with fail
  refine (Cut_any s 30 _ (by decide)).mono ?_
  rintro e w1 ⟨rfl, rfl⟩
  generalize cutB s 30 = t at hz
  go_wp2_with fail
  refine (parses_any t _ hz.out).mono ?_
  rintro e w1 ⟨rfl, rfl⟩
  go_wp2_with fail
  refine (HRF _).mono ?_
  rintro e w1 ⟨rfl, rfl⟩
  go_wp2_with fail
  refine (HP _).mono ?_
  rintro e w1 ⟨rfl, rfl⟩
  go_wp2_with fail
  refine (HRU _).mono ?_
  rintro e w1 ⟨rfl, rfl⟩
  go_wp2_with fail
  refine (HPU _).mono ?_
  rintro e w1 ⟨rfl, rfl⟩
  go_wp2_with fail
  refine (adds_any a b _ HA.out HB.out).mono ?_
  rintro e w1 ⟨rfl, rfl⟩
  go_wp2_with fail
  refine (HF _).mono ?_
  rintro e w2 ⟨rfl, hb2⟩
  have H2 : Hid (Below w1.heap.size w1 w2) := hb2
  clear hb2
  go_wp2_with fail
  refine (HRF _).mono ?_
  rintro e w3 ⟨rfl, rfl⟩
  go_wp2_with fail
  refine (HUn _).mono ?_
  rintro e w4 ⟨rfl, hb4⟩
  have H4 : Hid (Below w1.heap.size w1 w4) := H2.out.trans (hb4.mono H2.out.size)
  clear hb4
  go_wp2_with fail
  refine (HRU _).mono ?_
  rintro e w5 ⟨rfl, rfl⟩
  go_wp2_with fail
  refine (known_any _).mono ?_
  rintro e w6 ⟨rfl, rfl⟩
  go_wp2
  go_ret
  exact ⟨rfl, H4.out⟩
end Go.Proofs.Ytcbddggalccgiaa
