/-
  tallboylaw7.CtrlNumbers: chapter 7's runs, each byte in each slot.
-/
import Derived.Test.YtmhpaoclbkjohaaSameLaw
namespace Go.Proofs.Ytmhpaoclbkjohaa
open Go.RowKit Go.PlainAid

/-- A word whose slot i is set, if there is one. -/
theorem Set_any {l : List Nat} (hl : Ok l) (i : Int) (b : Nat) (hb : b < 256) (w : World) :
    Calls Try.prog 9 #[.int .u64 (val l : Nat), .int .i64 i, .int .u8 b] w fun e w' => Below w.heap.size w w' ∧ ∃ l', Ok l' ∧ e = .returned (.int .u64 (val l' : Nat)) := by
  by_cases h : 0 ≤ i ∧ i < 8
  · obtain ⟨k, rfl⟩ : ∃ k : Nat, i = (k : Int) := ⟨i.toNat, by omega⟩
    exact (Set_in hl k b (by omega) hb w).mono fun e w' ⟨he, h1⟩ => ⟨h1, _, hl.set k hb, he⟩
  · exact (Set_no (val l) b i w (by omega)).mono fun e w' ⟨he, h1⟩ => ⟨by rw [h1]; exact Below.refl _ _, _, hl, he⟩

set_option maxRecDepth 100000 in
set_option maxHeartbeats 4000000 in
theorem numbers_any (w : World) : Calls Try.prog 3 #[] w fun e w' => e = .returned (.bool true) ∧ Below w.heap.size w w' := by
  have H0 : Hid (Below w.heap.size w w) := Below.refl _ _
  have HN := New_any
  have HKn := known_any
  have HW := fun w => word_any new8_ok w
  replace HW : ∀ w, Calls Try.prog 11 #[.agg #[.int .u8 128, .int .u8 128, .int .u8 128, .int .u8 128, .int .u8 128, .int .u8 128, .int .u8 128, .int .u8 128]] w fun e w' => e = .returned (.int .u64 (val new8 : Nat)) ∧ Below w.heap.size w w' := HW
  obtain ⟨n8, hn8⟩ : ∃ n8, val new8 = n8 := ⟨_, rfl⟩
  have HN8 : Hid (val new8 = n8) := hn8
  rw [hn8] at HN
  simp only [hn8] at HW
  clear hn8
  go_enter Try.func3, Try.ntmps3
  go_wp2
  go_loopg [1, 2, 3] 256 (fun q cv wv iv wr => ∃ c : Nat, c + q = 256 ∧ cv = .int .i64 c ∧ Hid (Below w.heap.size w wr))
  case atStart => exact ⟨0, by omega, rfl, H0⟩
  case round =>
    clear H0
    obtain ⟨c, hc, rfl, HB⟩ := hrel
    obtain ⟨ga, hga⟩ : ∃ ga, ga = gk := ⟨_, rfl⟩
    subst hga
    obtain ⟨wa, hwa⟩ : ∃ wa, wa = wr := ⟨_, rfl⟩
    subst hwa
    by_cases h256 : c < 256
    · have hcz : (c : Int) < 256 := by omega
      clear HW HKn
      go_wp2_with fail
      refine (HN _).mono ?_
      rintro e w1 ⟨rfl, hb1⟩
      have H1 := step_below HB hb1
      clear hb1 HB HN
      go_wp2
      go_loopg [2, 3] 10 (fun q wv iv wr => ∃ (i : Nat) (l : List Nat), i + q = 10 ∧ iv = .int .i64 ((i : Int) - 1) ∧ wv = .int .u64 (val l : Nat) ∧ Hid (Ok l) ∧ Hid (Below w.heap.size w wr))
      case atStart => exact ⟨0, new8, by omega, rfl, by rw [HN8.out], new8_ok, H1⟩
      case round =>
        obtain ⟨i, l, hi, rfl, rfl, HL, HB⟩ := hrel
        by_cases h10 : i < 10
        · obtain ⟨z, hz⟩ : ∃ z : Int, (i : Int) - 1 = z := ⟨_, rfl⟩
          have HZ : Hid ((i : Int) - 1 = z) := hz
          have hz1 : -1 ≤ z ∧ z < 9 := by omega
          rw [hz]
          clear hz
          obtain ⟨b, hb⟩ : ∃ b : Nat, ((c : Int) * (z + 3)) % 256 = (b : Int) := ⟨(((c : Int) * (z + 3)) % 256).toNat, by omega⟩
          have hb2 : b < 256 := by omega
          have HS := fun w => Set_any HL.out z b hb2 w
          generalize val l = n at HS ⊢
          have hmul : (c : Int) * (z + 3) ≤ 256 * 12 ∧ 0 ≤ (c : Int) * (z + 3) := ⟨Int.mul_le_mul (by omega) (by omega) (by omega) (by omega), Int.mul_nonneg (by omega) (by omega)⟩
          obtain ⟨p, hp⟩ : ∃ p : Int, (c : Int) * (z + 3) = p := ⟨_, rfl⟩
          rw [hp] at hb hmul
          go_wp2_with fail
          refine (HS _).mono ?_
          rintro e w2 ⟨hb3, l', hO, rfl⟩
          have H2 := step_below HB hb3
          have HL2 : Hid (Ok l') := hO
          have HS1 := fun w => same_any hO z c h256 w
          have HS2 := fun w => same_any hO z 254 (by decide) w
          obtain ⟨n2, hn2⟩ : ∃ n2, val l' = n2 := ⟨_, rfl⟩
          have HN2 : Hid (val l' = n2) := hn2
          rw [hn2] at HS1 HS2 ⊢
          clear hb3 hO hn2 HS hb hp hmul
          go_wp2_with fail
          refine (HS1 _).mono ?_
          rintro e w3 ⟨rfl, hb3⟩
          have H3 := step_below H2 hb3
          clear hb3
          go_wp2_with fail
          refine (HS2 _).mono ?_
          rintro e w4 ⟨rfl, hb3⟩
          have H4 := step_below H3 hb3
          clear hb3
          go_wp2
          go_roundg (gk - 1)
          case measure => omega
          case rel => exact ⟨i + 1, l', by omega, by have := HZ.out; congr 1; omega, by rw [HN2.out], HL2, H4⟩
        · obtain rfl : i = 10 := by omega
          have h9 : ((10 : Nat) : Int) - 1 = 9 := rfl
          rw [h9]
          clear h9
          go_wp2
          go_roundg (ga - 1)
          case measure => omega
          case rel => exact ⟨c + 1, by omega, by go_num, HB⟩
    · obtain rfl : c = 256 := by omega
      go_wp2_with fail
      refine (HN _).mono ?_
      rintro e w1 ⟨rfl, hb1⟩
      have H1 := step_below HB hb1
      clear hb1
      go_wp2_with fail
      refine (HW _).mono ?_
      rintro e w2 ⟨rfl, hb1⟩
      have H2 := step_below H1 hb1
      clear hb1
      go_wp2_with fail
      refine (HKn _).mono ?_
      rintro e w3 ⟨rfl, hb1⟩
      have H3 := step_below H2 hb1
      clear hb1
      go_wp2
      go_ret
      exact ⟨rfl, H3.out⟩
end Go.Proofs.Ytmhpaoclbkjohaa
