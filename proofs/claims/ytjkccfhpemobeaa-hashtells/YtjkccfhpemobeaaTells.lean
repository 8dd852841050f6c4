/-
  The law HashTells, walked.
-/
import Derived.Test.YtjkccfhpemobeaaKeep
namespace Go.Proofs.Ytjkccfhpemobeaa
open Go.RowKit Go.PlainAid

set_option maxHeartbeats 4000000 in
set_option maxRecDepth 100000 in
theorem tells_any (x : Nat) (s : ByteArray) (h : Nat) (b : Int) (w : World) (hx : x < 18446744073709551616) (hh : h < 18446744073709551616) (hb : b < 9223372036854775808) (hb' : -9223372036854775808 ≤ b) :
    Calls Try.prog 4 #[.int .u64 x, .string s, .int .u64 h, .int .i64 b] w fun e w' => e = .returned (.bool true) ∧ Below w.heap.size w w' := by
  have hz : (cutB s 300).size ≤ maxLen := by
    have := size_cutB s 300 (by decide)
    unfold maxLen; omega
  have H1 := fun w => Of_any x (cutB s 300) w hz hx
  have H2 := fun w => refOf_any x (cutB s 300) w hz hx
  have H5 := fun w => Seven_any h w (by omega) (by omega)
  have HC := fun w => Cut_any s 300 w (by decide)
  generalize cutB s 300 = t at HC H1 H2
  generalize ofL x (lst t) = o at H1 H2
  clear hz hx
  go_enter Try.func4, Try.ntmps4
  go_wp2_with fail
  refine (HC _).mono ?_
  rintro e w ⟨rfl, rfl⟩
  go_wp2_with fail
  refine (Within_any b 16 _ (by decide) (by decide)).mono ?_
  rintro e w ⟨rfl, z, hz0, hz1, rfl⟩
  obtain ⟨k, rfl⟩ : ∃ k : Nat, z = k := ⟨z.toNat, by omega⟩
  have hk : k ≤ 16 := by omega
  have hw1 := wrap_pow k hk
  have hm : ((lowN h k : Nat) : Int) = (h : Int) % ((2 ^ k : Nat) : Int) := by rw [lowN, Int.natCast_emod]; congr 3; omega
  have hpos : 0 < 2 ^ k := Nat.pow_pos (by decide)
  have hple := pow_le_16 hk
  generalize 2 ^ k = p at hm hw1 hpos hple
  have hp0 : ((p : Int) == 0) = false := by simp; omega
  clear HC
  have hne : Nonempty (Ext w) := ⟨⟨w, Below.refl _ _⟩⟩
  go_upto_region 3 with fail
  refine wp_region_ext (by kernel_rfl) (by kernel_rfl) ?_
  repeat (go_big_quiet_step (first | (go_at_call 6; exact Calls.ext_of_same (H1 _)) | (go_at_call 5; exact Calls.ext_of_same (H2 _)) | (go_at_call 9; exact Calls.ext_of_same (refLow_any h _ _ hh (by omega) (by omega))) | (go_at_call 8; exact Calls.ext_of_same (Low_any h _ _ hh (by omega) (by omega))) | (go_at_call 7; exact Calls.ext_of_same (H5 _)) | (go_at_call 10; exact Calls.ext_of_same (known_any _))))
  refine wpQuiet_nil ?_
  intro wz hz
  obtain ⟨x, rfl⟩ := hz
  go_wp2
  go_ret
  exact ⟨rfl, x.ok⟩
end Go.Proofs.Ytjkccfhpemobeaa
