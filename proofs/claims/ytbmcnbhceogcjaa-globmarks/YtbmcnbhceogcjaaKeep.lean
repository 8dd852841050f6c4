/-
  What the laws call besides: Cut, Within, known.
-/
import Derived.Test.YtbmcnbhceogcjaaMatch
namespace Go.Proofs.Ytbmcnbhceogcjaa
open Go.RowKit Go.PlainAid

def cutB (s : ByteArray) (n : Int) : ByteArray := if n < (s.size : Int) then s.extract 0 n.toNat else s
theorem size_cutB (s : ByteArray) (n : Int) (h : 0 ≤ n) : ((cutB s n).size : Int) ≤ n := by
  unfold cutB
  split
  · simp; omega
  · omega

theorem Cut_any (s : ByteArray) (n : Int) (w : World) (h0 : 0 ≤ n) :
    Calls Try.prog 13 #[.string s, .int .i64 n] w fun e w' => e = .returned (.string (cutB s n)) ∧ w' = w := by
  by_cases h : n < s.size
  · have HC : Hid (cutB s n = s.extract 0 n.toNat) := by show cutB s n = _; rw [cutB, if_pos h]
    go_enter Try.func13, Try.ntmps13
    go_wp2
    go_ret
    exact ⟨by rw [HC.out]; simp, rfl⟩
  · have HC : Hid (cutB s n = s) := by show cutB s n = _; rw [cutB, if_neg h]
    go_enter Try.func13, Try.ntmps13
    go_wp2
    go_ret
    exact ⟨by rw [HC.out]; rfl, rfl⟩

theorem Within_any (n hi : Int) (w : World) (h0 : 0 ≤ hi) (h1 : hi ≤ 2000000) :
    Calls Try.prog 14 #[.int .i64 n, .int .i64 0, .int .i64 hi] w fun e w' => w' = w ∧ ∃ z : Int, 0 ≤ z ∧ z ≤ hi ∧ e = .returned (.int .i64 z) := by
  have hz : (hi + 1 == 0) = false := by simp; omega
  have hr0 : n.tmod (hi + 1) < hi + 1 := Int.tmod_lt_of_pos n (by omega)
  have hr1 : -(hi + 1) < n.tmod (hi + 1) := Int.lt_tmod_of_pos n (by omega)
  obtain ⟨r, hr⟩ : ∃ r, n.tmod (hi + 1) = r := ⟨_, rfl⟩
  rw [hr] at hr0 hr1
  by_cases hn : r < 0
  · go_enter Try.func14, Try.ntmps14
    go_wp2
    go_ret
    exact ⟨rfl, r + hi + 1, by omega, by omega, rfl⟩
  · go_enter Try.func14, Try.ntmps14
    go_wp2
    go_ret
    exact ⟨rfl, r, by omega, by omega, rfl⟩

/-- A match whose answer is known. -/
theorem Match_is {p s : ByteArray} {R : Bool} (h : mat (lst p) (lst s) = R) (hp : p.size ≤ maxLen) (hs : s.size ≤ maxLen) (w : World) :
    Calls Try.prog 9 #[.string p, .string s] w fun e w' => Below w.heap.size w w' ∧ e = .returned (.bool R) := by
  rw [← h]; exact Match_any p s w hp hs

theorem step_below {w w1 w2 : World} (h : Hid (Below w.heap.size w w1)) (hb : Below w1.heap.size w1 w2) : Hid (Below w.heap.size w w2) := h.out.trans (hb.mono h.out.size)

set_option maxRecDepth 100000 in
theorem known_any (w : World) : Calls Try.prog 12 #[] w fun e w' => Below w.heap.size w w' ∧ e = .returned (.bool true) := by
  have HA := fun w => Match_is (p := ⟨#[104, 91, 94, 97, 93, 42, 111]⟩) (s := ⟨#[104, 101, 108, 108, 111]⟩) (R := true) (by decide +kernel) (by decide) (by decide) w
  have HB := fun w => Match_is (p := ⟨#[]⟩) (s := ⟨#[]⟩) (R := true) (by decide +kernel) (by decide) (by decide) w
  have HC := fun w => Match_is (p := ⟨#[91, 122, 45, 97, 93]⟩) (s := ⟨#[109]⟩) (R := true) (by decide +kernel) (by decide) (by decide) w
  have HD := fun w => Match_is (p := ⟨#[97]⟩) (s := ⟨#[]⟩) (R := false) (by decide +kernel) (by decide) (by decide) w
  have HE := fun w => Match_is (p := ⟨#[104, 91, 94, 97, 93, 42, 111]⟩) (s := ⟨#[104, 97, 108, 108, 111]⟩) (R := false) (by decide +kernel) (by decide) (by decide) w
  have H0 : Hid (Below w.heap.size w w) := Below.refl _ _
  go_enter Try.func12, Try.ntmps12
  go_wp2_with fail
  refine (HA _).mono ?_
  rintro e w1 ⟨hb, rfl⟩
  have H1 := step_below H0 hb
  clear hb
  go_wp2_with fail
  refine (HB _).mono ?_
  rintro e w2 ⟨hb, rfl⟩
  have H2 := step_below H1 hb
  clear hb
  go_wp2_with fail
  refine (HC _).mono ?_
  rintro e w3 ⟨hb, rfl⟩
  have H3 := step_below H2 hb
  clear hb
  go_wp2_with fail
  refine (HD _).mono ?_
  rintro e w4 ⟨hb, rfl⟩
  have H4 := step_below H3 hb
  clear hb
  go_wp2_with fail
  refine (HE _).mono ?_
  rintro e w5 ⟨hb, rfl⟩
  have H5 := step_below H4 hb
  clear hb
  go_wp2
  go_ret
  exact ⟨H5.out, rfl⟩
end Go.Proofs.Ytbmcnbhceogcjaa
