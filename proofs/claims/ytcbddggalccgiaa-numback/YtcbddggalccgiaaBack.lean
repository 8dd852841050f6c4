/-
  The law NumBack, walked.
-/
import Derived.Test.YtcbddggalccgiaaTells
namespace Go.Proofs.Ytcbddggalccgiaa
open Go.RowKit Go.PlainAid

set_option maxHeartbeats 1000000 in
theorem back_any (a : Int) (u : Nat) (s : ByteArray) (w : World) (ha : Int64 a) (hu : u < 18446744073709551616) (hs : s.size ≤ maxLen) :
    Calls Try.prog 5 #[.int .i64 a, .int .u64 u, .string s] w fun e w' => e = .returned (.bool true) ∧ Below w.heap.size w w' := by
  have HS : Hid (s.size ≤ maxLen) := hs
  have HF := fun w => Format_any a w ha.1 ha.2
  have HP := fun w => Parse_any (bs (fmtL a)) w (small_bs _ (fmtL_len ha.1 ha.2)) (some a) (by rw [lst_bs]; exact parseL_fmtL ha.1 ha.2)
  have HUn := fun w => Unsigned_any u w hu
  have HC := fun w => Cursor_any (bs (dec u)) w (small_bs _ (by have := dec_len20 hu; omega)) (some u) (by rw [lst_bs]; exact cursorL_dec hu)
  dsimp only [i64R, u64R, Option.getD_some, Option.isSome_some] at HP HC
  generalize bs (fmtL a) = f at HF HP
  generalize bs (dec u) = d at HUn HC
  clear ha hu hs
  go_enter Try.func5, Try.ntmps5
  go_wp2_with fail
  refine (HF _).mono ?_
  rintro e w1 ⟨rfl, hb1⟩
  have H1 : Hid (Below w.heap.size w w1) := hb1
  clear hb1
  go_wp2_with fail
  refine (HP _).mono ?_
  rintro e w2 ⟨rfl, rfl⟩
  go_wp2_with fail
  refine (HUn _).mono ?_
  rintro e w3 ⟨rfl, hb3⟩
  have H3 : Hid (Below w.heap.size w w3) := H1.out.trans (hb3.mono H1.out.size)
  clear hb3
  go_wp2_with fail
  refine (HC _).mono ?_
  rintro e w4 ⟨rfl, rfl⟩
  go_wp2_with fail
  cases hp : parseL (lst s) with
  | none =>
    refine (Parse_any s _ HS.out none hp).mono ?_
    rintro e w4 ⟨rfl, rfl⟩
    dsimp only [i64R, Option.getD_none, Option.isSome_none]
    go_wp2_with fail
    refine (known_any _).mono ?_
    rintro e w5 ⟨rfl, rfl⟩
    go_wp2
    go_ret
    exact ⟨rfl, H3.out⟩
  | some m =>
    obtain ⟨he, h1, h2⟩ := parseL_some hp
    refine (Parse_any s _ HS.out (some m) hp).mono ?_
    rintro e w4 ⟨rfl, rfl⟩
    dsimp only [i64R, Option.getD_some, Option.isSome_some]
    have HM := fun w => Format_any m w h1 h2
    rw [show bs (fmtL m) = s by rw [← he, bs_lst]] at HM
    clear he h1 h2 hp
    go_wp2_with fail
    refine (HM _).mono ?_
    rintro e w5 ⟨rfl, hb5⟩
    have H5 : Hid (Below w.heap.size w w5) := H3.out.trans (hb5.mono H3.out.size)
    clear hb5
    go_wp2_with fail
    refine (known_any _).mono ?_
    rintro e w6 ⟨rfl, rfl⟩
    go_wp2
    go_ret
    exact ⟨rfl, H5.out⟩
end Go.Proofs.Ytcbddggalccgiaa
