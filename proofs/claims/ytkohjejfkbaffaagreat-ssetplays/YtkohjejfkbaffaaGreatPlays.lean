/-
  SsetPlays.
-/
import Derived.Test.YtkohjejfkbaffaaGreatG19
namespace Go.Proofs.YtkohjejfkbaffaaGreat
open Go.RowKit Go.PlainAid
open Dk (En Stay hasK putE delE keysOf Dct Dg dtag Turn)

set_option maxRecDepth 100000 in
set_option maxHeartbeats 4000000 in
theorem playsS_any (x : Nat) (e t : Int) (a : Option Addr) (n cap : Nat) (w : World) (hx : x < 18446744073709551616) (ha : RdK w a n) :
    Calls Tryz.prog 4 #[.int .u64 x, .int .i64 e, .int .i64 t, .slice a n cap] w fun e w' => e = .returned (.bool true) ∧ Below w.heap.size w w' := by
  have HW1 := fun w => Within_wi e 40 w (by decide)
  have HW2 := fun w => Within_wi t 60 w (by decide)
  have hE := wi_le e 40
  have hT := wi_le t 60
  generalize wi e 40 = E at HW1 hE
  generalize wi t 60 = T at HW2 hT
  have HMa := made_any x E T a n cap w hx (by omega) hT ha
  clear ha
  go_enter Tryz.func4, Tryz.ntmps4
  go_wp2_with fail
  refine (HW1 _).mono ?_
  rintro en w1 ⟨rfl, rfl⟩
  go_wp2_with fail
  refine (HW2 _).mono ?_
  rintro en w2 ⟨rfl, rfl⟩
  go_wp2_with fail
  refine HMa.mono ?_
  rintro en w3 ⟨hb, m, q, l, F, M, rfl, -, -, -⟩
  have HB : Hid (Below w2.heap.size w2 w3) := hb
  clear hb HMa
  go_wp2_with fail
  refine (known_any _).mono ?_
  rintro en w4 ⟨rfl, hb⟩
  have HB4 := step_below HB hb
  clear hb
  go_wp2
  go_ret
  exact ⟨rfl, HB4.out⟩
end Go.Proofs.YtkohjejfkbaffaaGreat
