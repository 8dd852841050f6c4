/-
  TablePlays.
-/
import Derived.Test.YtnmonhendidhkaaPlay
namespace Go.Proofs.Ytnmonhendidhkaa
open Go.RowKit Go.PlainAid

theorem plays_any (x : Nat) (a : Option Addr) (n cap : Nat) (w : World) (hx : x < 18446744073709551616) (hR : RdA w a n) :
    Calls Try.prog 4 #[.int .u64 x, .slice a n cap] w fun e w' => e = .returned (.bool true) ∧ Below w.heap.size w w' := by
  have HP := play_any x a n cap 300 w hx hR (by decide)
  have HK := known_any
  replace HP : Calls Try.prog 8 #[.int .u64 x, .slice a n cap, .int .i64 300] w fun e w' => e = .returned (.bool true) ∧ Below w.heap.size w w' := HP
  clear hR
  go_enter Try.func4, Try.ntmps4
  go_wp2_with fail
  refine HP.mono ?_
  rintro e w1 ⟨rfl, hb1⟩
  have HB1 : Hid (Below w.heap.size w w1) := hb1
  clear hb1
  go_wp2_with fail
  refine (HK _).mono ?_
  rintro e w2 ⟨rfl, hb2⟩
  have HB2 := step_below HB1 hb2
  clear hb2
  go_wp2
  go_ret
  exact ⟨rfl, HB2.out⟩
end Go.Proofs.Ytnmonhendidhkaa
