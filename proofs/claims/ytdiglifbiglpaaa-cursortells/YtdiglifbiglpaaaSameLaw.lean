/-
  The law's own helper same: the program and the document answer alike; tallboylaw9.CursorTells.
-/
import Derived.Test.YtdiglifbiglpaaaAll
namespace Go.Proofs.Ytdiglifbiglpaaa
open Go.RowKit Go.PlainAid

theorem same_any (c h : Nat) (d : Int) (w : World) (hc : c < 18446744073709551616) (hh : h < 18446744073709551616) (h0 : -9223372036854775808 ≤ d) (h1 : d ≤ 9223372036854775807) :
    Calls Try.prog 9 #[.int .u64 c, .int .u64 h, .int .i64 d] w fun e w' => e = .returned (.bool true) ∧ w' = w := by
  have H1 := fun w => Next_any c d w hc h0 h1
  have H2 := fun w => refNext_any c d w hc h0 h1
  have H3 := fun w => Bucket_any c d w hc h0 h1
  have H4 := fun w => refLow_any c d w hc (by omega) h0
  have H5 := fun w => Seen_any c h d w hc hh h0 h1
  have H6 := fun w => refSeen_any c h d w hc hh h0 h1
  generalize nxt (dep d) c = x at H1 H2
  generalize lowN c d = y at H3 H4
  generalize seen (dep d) c h = z at H5 H6
  go_enter Try.func9, Try.ntmps9
  go_wp2_with fail
  refine (H1 _).mono ?_
  rintro e w ⟨rfl, rfl⟩
  go_wp2_with fail
  refine (H2 _).mono ?_
  rintro e w ⟨rfl, rfl⟩
  go_wp2_with fail
  refine (H3 _).mono ?_
  rintro e w ⟨rfl, rfl⟩
  go_wp2_with fail
  refine (H4 _).mono ?_
  rintro e w ⟨rfl, rfl⟩
  go_wp2_with fail
  refine (H5 _).mono ?_
  rintro e w ⟨rfl, rfl⟩
  go_wp2_with fail
  refine (H6 _).mono ?_
  rintro e w ⟨rfl, rfl⟩
  go_wp2
  go_ret
  exact ⟨rfl, rfl⟩

theorem tells_any (c h : Nat) (d : Int) (w : World) (hc : c < 18446744073709551616) (hh : h < 18446744073709551616) (h0 : -9223372036854775808 ≤ d) (h1 : d ≤ 9223372036854775807) :
    Calls Try.prog 4 #[.int .u64 c, .int .u64 h, .int .i64 d] w fun e w' => e = .returned (.bool true) ∧ Below w.heap.size w w' := by
  have H1 := fun w => same_any c h d w hc hh h0 h1
  go_enter Try.func4, Try.ntmps4
  go_wp2_with fail
  refine (Within_any d 0 16 _ (by decide) (by decide) (by decide)).mono ?_
  rintro e w ⟨rfl, k, hk0, hk1, rfl⟩
  have H2 := fun w => same_any c h k w hc hh (by omega) (by omega)
  have H3 := fun w => refLow_any c k w hc (by omega) (by omega)
  have hl := low_lt c k
  have H4 := fun w => same_any (lowN c k) h k w (by omega) hh (by omega) (by omega)
  generalize lowN c k = y at H3 H4 hl
  go_wp2_with fail
  refine (H1 _).mono ?_
  rintro e w ⟨rfl, rfl⟩
  go_wp2_with fail
  refine (H2 _).mono ?_
  rintro e w ⟨rfl, rfl⟩
  go_wp2_with fail
  refine (H3 _).mono ?_
  rintro e w ⟨rfl, rfl⟩
  go_wp2_with fail
  refine (H4 _).mono ?_
  rintro e w ⟨rfl, rfl⟩
  go_wp2_with fail
  refine (known_any _).mono ?_
  rintro e w1 ⟨rfl, hb⟩
  go_wp2
  go_ret
  exact ⟨rfl, hb⟩
end Go.Proofs.Ytdiglifbiglpaaa
