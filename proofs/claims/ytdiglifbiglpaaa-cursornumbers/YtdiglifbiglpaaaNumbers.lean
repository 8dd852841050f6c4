/-
  tallboylaw9.CursorNumbers: chapter 9's runs, all cursors of small depths, depths at each bound.
-/
import Derived.Test.YtdiglifbiglpaaaSameLaw
namespace Go.Proofs.Ytdiglifbiglpaaa
open Go.RowKit Go.PlainAid

/-- The great depths of the closed sentence, by their places. -/
def deepAt (j : Nat) : Int := [13, 15, 16, 17, 100].getD j 13
theorem deepAt_in (j : Nat) (h : j < 5) : 13 ≤ deepAt j ∧ deepAt j ≤ 100 := by
  have : ∀ j : Fin 5, 13 ≤ deepAt j.1 ∧ deepAt j.1 ≤ 100 := by decide
  exact this ⟨j, h⟩
/-- The row of great depths in memory. -/
def Five (w : World) (B : Nat) : Prop := w.rowIs B 3 5 (fun j => .int .i64 (deepAt j))
theorem Five.made (w : World) : Five (w.alloc (.cells #[.int .i64 13, .int .i64 15, .int .i64 16, .int .i64 17, .int .i64 100] 3)) w.heap.size :=
  World.rowIs_alloc w #[.int .i64 13, .int .i64 15, .int .i64 16, .int .i64 17, .int .i64 100] 3 (fun j => .int .i64 (deepAt j)) (by
    intro i hi
    rcases i with _|_|_|_|_|i
    · rfl
    · rfl
    · rfl
    · rfl
    · rfl
    · simp at hi; omega)
theorem Five.keep {w w' : World} {B : Nat} (h : Five w B) (hb : Below w.heap.size w w') : Five w' B := World.rowIs.of_block h (hb.block B (World.rowIs.lt h))

set_option maxRecDepth 100000 in
set_option maxHeartbeats 4000000 in
theorem numbers_any (w : World) : Calls Try.prog 3 #[] w fun e w' => e = .returned (.bool true) ∧ Below w.heap.size w w' := by
  go_enter Try.func3, Try.ntmps3
  go_wp2
  go_loopg [1, 2] 8 (fun g dv cv wr => w = wr ∧ ∃ k : Nat, k + g = 8 ∧ dv = .int .i64 ((k : Int) - 1))
  case atStart => exact ⟨rfl, 0, by omega, rfl⟩
  case round =>
    obtain ⟨rfl, k, hk, rfl⟩ := hrel
    obtain ⟨ga, hga⟩ : ∃ ga, ga = gk := ⟨_, rfl⟩
    subst hga
    obtain ⟨d, hd⟩ : ∃ d : Int, (k : Int) - 1 = d := ⟨_, rfl⟩
    have HD : Hid ((k : Int) - 1 = d) := hd
    have hd1 : -1 ≤ d ∧ d ≤ 7 := by omega
    rw [hd]
    clear hd
    by_cases hlt : d < 7
    · go_wp2
      go_loopg [2] 70 (fun g cv wr => w = wr ∧ ∃ c : Nat, c + g = 70 ∧ cv = .int .u64 c)
      case atStart => exact ⟨rfl, 0, by omega, rfl⟩
      case round =>
        obtain ⟨rfl, c, hc, rfl⟩ := hrel
        by_cases hl2 : c < 70
        · have hcz : (c : Int) < 70 := by omega
          have hw : IntKind.u64.wrap ((c : Int) * 7) = ((c * 7 : Nat) : Int) := by
            simp [IntKind.wrap, IntKind.signed, IntKind.bits]
            omega
          have H1 := fun w => same_any c (c * 7) d w (by omega) (by omega) (by omega) (by omega)
          generalize c * 7 = m at hw H1
          go_wp2_with fail
          refine (H1 _).mono ?_
          rintro e w2 ⟨rfl, rfl⟩
          go_wp2
          go_roundg (gk - 1)
          case measure => omega
          case rel => exact ⟨rfl, c + 1, by omega, by go_num⟩
        · go_wp2
          go_roundg (ga - 1)
          case measure => have := HD.out; omega
          case rel => exact ⟨rfl, k + 1, by have := HD.out; omega, by have := HD.out; congr 1; omega⟩
    · obtain rfl : d = 7 := by omega
      clear HD hk hd1
      obtain ⟨wf, hwf⟩ : ∃ wf, w.alloc (.cells #[.int .i64 13, .int .i64 15, .int .i64 16, .int .i64 17, .int .i64 100] 3) = wf := ⟨_, rfl⟩
      have HF : Hid (Five wf w.heap.size) := by show Five _ _; rw [← hwf]; exact Five.made w
      have HB : Hid (Below w.heap.size w wf) := by show Below _ _ _; rw [← hwf]; exact (Below.refl _ _).alloc (Nat.le_refl _) _
      obtain ⟨q, hq⟩ : ∃ q, w.heap.size = q := ⟨_, rfl⟩
      have HQ : Hid (w.heap.size = q) := hq
      rw [hq] at HF
      go_wp2
      clear hq hwf
      go_loopg [4, 21] 5 (fun g dv iv wr => ∃ i : Nat, i + g = 5 ∧ iv = .int .i64 i ∧ Hid (Five wr q) ∧ Hid (Below w.heap.size w wr))
      case atStart => exact ⟨0, by omega, rfl, HF, HB⟩
      case round =>
        clear HF HB
        obtain ⟨i, hi, rfl, HF, HB⟩ := hrel
        by_cases hl5 : i < 5
        · have hi5 : (i : Int) < 5 := by omega
          have hc := HF.out.cell (i := i) hl5
          have hd := deepAt_in i hl5
          generalize deepAt i = d at hc hd
          have hd12 : 12 < dep d := by unfold dep; omega
          have H1 := fun w => All_no d w (by omega) (by omega) hd12
          have H2 := fun w => same_any 65535 4660 d w (by decide) (by decide) (by omega) (by omega)
          have H3 := fun w => same_any 18446744073709551615 0 d w (by decide) (by decide) (by omega) (by omega)
          clear hd12
          go_wp2_with fail
          refine (H1 _).mono ?_
          rintro e w2 ⟨rfl, rfl⟩
          go_wp2_with fail
          refine (H2 _).mono ?_
          rintro e w2 ⟨rfl, rfl⟩
          go_wp2_with fail
          refine (H3 _).mono ?_
          rintro e w2 ⟨rfl, rfl⟩
          go_wp2
          go_roundg (gk - 1)
          case measure => omega
          case rel => exact ⟨i + 1, by omega, by go_num, HF, HB⟩
        · obtain rfl : i = 5 := by omega
          have H1 := fun w => All_in 12 w (by decide) (by decide) (by decide)
          have H2 := fun w => All_in (-3) w (by decide) (by decide) (by decide)
          rw [show (2 : Nat) ^ dep 12 = 4096 by decide] at H1
          rw [show (2 : Nat) ^ dep (-3) = 1 by decide] at H2
          clear HF
          go_wp2_with fail
          refine (H1 _).mono ?_
          rintro e w2 ⟨g1, rfl, hb, -, -⟩
          have HB1 := step_below HB hb
          clear HB hb H1
          go_wp2_with fail
          refine (H2 _).mono ?_
          rintro e w3 ⟨g2, rfl, hb, -, -⟩
          have HB2 := step_below HB1 hb
          clear HB1 hb H2
          go_wp2_with fail
          refine (known_any _).mono ?_
          rintro e w4 ⟨rfl, hb⟩
          have HB3 := step_below HB2 hb
          clear HB2 hb
          go_wp2
          go_ret
          exact ⟨rfl, HB3.out⟩
end Go.Proofs.Ytdiglifbiglpaaa
