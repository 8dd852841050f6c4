/-
  The law HashNumbers, walked.
-/
import Derived.Test.YtjkccfhpemobeaaKeep
namespace Go.Proofs.Ytjkccfhpemobeaa
open Go.RowKit Go.PlainAid

/-- The seeds of the closed sentence, by their places. -/
def seedAt (j : Nat) : Nat := [0, 1, 9223372036854775808, 18446744073709551615].getD j 0
theorem seedAt_lt (j : Nat) (h : j < 4) : seedAt j < 18446744073709551616 := by
  have : ∀ j : Fin 4, seedAt j.1 < 18446744073709551616 := by decide
  exact this ⟨j, h⟩

/-- The row of seeds in memory. -/
structure Four (w wr : World) (B : Nat) : Prop where
  below : Below w.heap.size w wr
  cell : ∀ j, j < 4 → wr.cell? ⟨B, j, none⟩ = some (.int .u64 (seedAt j : Nat))

theorem Four.made (w wr : World) (h : Below w.heap.size w wr) : Four w (wr.alloc (.cells #[.int .u64 0, .int .u64 1, .int .u64 9223372036854775808, .int .u64 18446744073709551615] 22)) wr.heap.size where
  below := h.alloc h.size _
  cell j hj := by
    rcases j with _|_|_|_|j
    all_goals first | omega | (simp; rfl)

theorem extract_max (t : ByteArray) (k : Nat) (h : t.size ≤ maxLen) : (t.extract 0 k).size ≤ maxLen := by
  simp
  omega

set_option maxHeartbeats 4000000 in
set_option maxRecDepth 100000 in
theorem numbers_any (w : World) : Calls Try.prog 3 #[] w fun e w' => e = .returned (.bool true) ∧ Below w.heap.size w w' := by
  go_enter Try.func3, Try.ntmps3
  go_wp2
  go_loopg [1] 40 (fun g i wr => ∃ k : Nat, k + g = 40 ∧ i = .int .i64 k ∧ Hid (Below w.heap.size w wr))
  case atStart => exact ⟨0, rfl, rfl, Below.refl _ _⟩
  case round =>
    obtain ⟨k, hk, rfl, H⟩ := hrel
    obtain ⟨wa, hwa⟩ : ∃ wa, wa = wr := ⟨_, rfl⟩
    subst hwa
    obtain ⟨ga, hga⟩ : ∃ ga, ga = gk := ⟨_, rfl⟩
    subst hga
    by_cases hlt : k < 40
    · have HF := Four.made w wa H.out
      obtain ⟨wn, hwn⟩ : ∃ wn, wa.alloc (.cells #[.int .u64 0, .int .u64 1, .int .u64 9223372036854775808, .int .u64 18446744073709551615] 22) = wn := ⟨_, rfl⟩
      rw [hwn] at HF
      replace HF : Hid (Four w wn wa.heap.size) := HF
      have hk40 : (k : Int) < 40 := by omega
      go_upto_region 5 with fail
      have ht := extract_max ⟨#[115, 111, 109, 101, 32, 116, 101, 120, 116, 32, 116, 104, 97, 116, 32, 105, 115, 32, 104, 97, 115, 104, 101, 100, 44, 32, 98, 121, 116, 101, 32, 98, 121, 32, 98, 121, 116, 101, 44, 32, 97, 108, 108]⟩ k (by decide)
      generalize ByteArray.extract ⟨#[115, 111, 109, 101, 32, 116, 101, 120, 116, 32, 116, 104, 97, 116, 32, 105, 115, 32, 104, 97, 115, 104, 101, 100, 44, 32, 98, 121, 116, 101, 32, 98, 121, 32, 98, 121, 116, 101, 44, 32, 97, 108, 108]⟩ 0 k = t at ht ⊢
      replace ht : Hid (t.size ≤ maxLen) := ht
      go_wp2
      go_loopg [15] 4 (fun g i wr => ∃ j : Nat, j + g = 4 ∧ i = .int .i64 j ∧ Hid (Four w wr wa.heap.size))
      case atStart => exact ⟨0, rfl, rfl, HF⟩
      case round =>
        obtain ⟨j, hj, rfl, HF⟩ := hrel
        by_cases hj4 : j < 4
        · have hc := HF.out.cell j hj4
          have hx := seedAt_lt j hj4
          generalize seedAt j = x at hc hx
          have H1 := fun w => refOf_any x t w ht.out hx
          have H2 := fun w => Of_any x t w ht.out hx
          have ho := ofL_lt x (lst t)
          generalize ofL x (lst t) = o at H1 H2 ho
          have H3 := fun w => Seven_any o w (by omega) (by omega)
          clear hx hwn
          go_wp2_with fail
          refine (H1 _).mono ?_
          rintro e wr ⟨rfl, rfl⟩
          go_wp2_with fail
          refine (H2 _).mono ?_
          rintro e wr ⟨rfl, rfl⟩
          go_wp2_with fail
          refine (H3 _).mono ?_
          rintro e wr ⟨rfl, rfl⟩
          go_wp2
          go_roundg (gk - 1)
          case measure => omega
          case rel => exact ⟨j + 1, by omega, by go_num, HF⟩
        · have HB : Hid (Below w.heap.size w wr) := HF.out.below
          clear HF hwn
          go_wp2
          go_roundg (ga - 1)
          case measure => omega
          case rel => exact ⟨k + 1, by omega, by go_num, HB⟩
    · have hk40 : ¬ (k : Int) < 40 := by omega
      clear hk
      go_wp2
      go_loopg [6] 20 (fun g i wr => ∃ b : Int, b + g = 19 ∧ i = .int .i64 b ∧ -1 ≤ b ∧ Hid (Below w.heap.size w wr))
      case atStart => exact ⟨-1, by decide, rfl, by decide, H⟩
      case round =>
        obtain ⟨b, hb, rfl, hb0, H⟩ := hrel
        by_cases hb19 : b < 19
        · have H1 := fun w => Low_any 18446744073709551615 b w (by decide) (by omega) (by omega)
          have H2 := fun w => refLow_any 18446744073709551615 b w (by decide) (by omega) (by omega)
          generalize lowN 18446744073709551615 b = q at H1 H2
          go_wp2_with fail
          refine (H1 _).mono ?_
          rintro e wr ⟨rfl, rfl⟩
          go_wp2_with fail
          refine (H2 _).mono ?_
          rintro e wr ⟨rfl, rfl⟩
          go_wp2
          go_roundg (gk - 1)
          case measure => omega
          case rel => exact ⟨b + 1, by omega, by go_num, by omega, H⟩
        · go_wp2_with fail
          refine (known_any _).mono ?_
          rintro e wr ⟨rfl, rfl⟩
          go_wp2
          go_ret
          exact ⟨rfl, H.out⟩
end Go.Proofs.Ytjkccfhpemobeaa
