/-
  The law NumAdds, walked.
-/
import Derived.Test.YtcbddggalccgiaaSums
namespace Go.Proofs.Ytcbddggalccgiaa
open Go.RowKit Go.PlainAid

/-- A pair of the three, by its place. -/
def pairAt (a b c : Int) (k : Nat) : Int × Int := if k = 0 then (a, b) else if k = 1 then (a, c) else (-c, b)

theorem addO_comm (a b : Int) : addO a b = addO b a := by unfold addO; rw [Int.add_comm]

theorem pairAt_in {a b c : Int} (ha : Int64 a) (hb : Int64 b) (hc : Int64 c) (hc' : Int64 (-c)) (k : Nat) : Int64 (pairAt a b c k).1 ∧ Int64 (pairAt a b c k).2 := by
  unfold pairAt
  split
  · exact ⟨ha, hb⟩
  · split
    · exact ⟨ha, hc⟩
    · exact ⟨hc', hb⟩

/-- The three pairs in memory. -/
structure Three (a b c : Int) (w wr : World) : Prop where
  below : Below w.heap.size w wr
  size : w.heap.size < wr.heap.size
  one : ∀ k, k < 3 → wr.cell? ⟨w.heap.size, k * 2, none⟩ = some (.int .i64 (pairAt a b c k).1)
  two : ∀ k, k < 3 → wr.cell? ⟨w.heap.size, k * 2 + 1, none⟩ = some (.int .i64 (pairAt a b c k).2)

theorem Three.keep {a b c : Int} {w wr wn : World} (h : Three a b c w wr) (hb : Below wr.heap.size wr wn) : Three a b c w wn where
  below := h.below.trans (hb.mono h.below.size)
  size := Nat.lt_of_lt_of_le h.size hb.size
  one k hk := by rw [hb.cell (p := ⟨w.heap.size, k * 2, none⟩) h.size]; exact h.one k hk
  two k hk := by rw [hb.cell (p := ⟨w.heap.size, k * 2 + 1, none⟩) h.size]; exact h.two k hk

set_option maxHeartbeats 1000000 in
theorem adds_law (a b near : Int) (w : World) (ha : Int64 a) (hb : Int64 b) :
    Calls Try.prog 6 #[.int .i64 a, .int .i64 b, .int .i64 near] w fun e w' => e = .returned (.bool true) ∧ Below w.heap.size w w' := by
  have HA : Hid (Int64 a) := ha
  have HB : Hid (Int64 b) := hb
  clear ha hb
  go_enter Try.func6, Try.ntmps6
  go_wp2_with fail
  refine (Within_any near 1000 _ (by decide) (by decide)).mono ?_
  rintro e w1 ⟨rfl, z, hz0, hz1, rfl⟩
  go_wp2
  go_loopg [29] 3 (fun g i wr => ∃ k : Nat, k + g = 3 ∧ i = .int .i64 k ∧ Hid (Three a b (9223372036854775807 - z) w1 wr))
  case atStart =>
    refine ⟨0, rfl, rfl, (Below.refl _ _).alloc (Nat.le_refl _) _, by simp, fun k hk => ?_, fun k hk => ?_⟩
    · match k, hk with
      | 0, _ => simp; rfl
      | 1, _ => simp; rfl
      | 2, _ => simp; rfl
    · match k, hk with
      | 0, _ => simp; rfl
      | 1, _ => simp; rfl
      | 2, _ => simp; rfl
  case round =>
    obtain ⟨k, hk, rfl, H⟩ := hrel
    by_cases hk3 : k < 3
    · have hc1 := H.out.one k hk3
      have hc2 := H.out.two k hk3
      obtain ⟨hp, hq⟩ := pairAt_in HA.out HB.out (show Int64 (9223372036854775807 - z) from ⟨by omega, by omega⟩) (show Int64 (-(9223372036854775807 - z)) from ⟨by omega, by omega⟩) k
      generalize (pairAt a b (9223372036854775807 - z) k).1 = p at hc1 hp
      generalize (pairAt a b (9223372036854775807 - z) k).2 = q at hc2 hq
      have HAB := fun w => Add_any p q w hp hq
      have HBA := fun w => Add_any q p w hq hp
      rw [addO_comm q p] at HBA
      unfold Int64 at hp hq
      go_wp2_with fail
      refine (HAB _).mono ?_
      rintro e w2 ⟨rfl, hw2⟩
      have hcp : w2.cell? ⟨wr.heap.size, 0, none⟩ = some (.int .i64 p) := by rw [hw2]; simp
      have hcq : w2.cell? ⟨wr.heap.size, 1, none⟩ = some (.int .i64 q) := by rw [hw2]; simp
      have H2 : Hid (Three a b (9223372036854775807 - z) w1 w2) := H.out.keep (by rw [hw2]; exact (Below.refl _ _).alloc (Nat.le_refl _) _)
      clear hw2 H hc1 hc2
      generalize wr.heap.size = B at hcp hcq ⊢
      by_cases hin : Int64 (p + q)
      · rw [addO_some hin] at HBA ⊢
        dsimp only [i64R, Option.getD_some, Option.isSome_some] at HBA ⊢
        unfold Int64 at hin
        go_wp2_with fail
        refine (HBA _).mono ?_
        rintro e w3 ⟨rfl, rfl⟩
        have e1 : (p + q - p != q) = false := by simp; omega
        have e2 : (decide (0 < q) == decide (p < p + q)) = true := by
          by_cases hq0 : 0 < q
          · rw [decide_eq_true hq0, decide_eq_true (by omega)]; rfl
          · rw [decide_eq_false hq0, decide_eq_false (by omega)]; rfl
        go_wp2
        go_roundg (gk - 1)
        case measure => omega
        case rel => exact ⟨k + 1, by omega, by go_num, H2⟩
      · rw [addO_none hin] at HBA ⊢
        dsimp only [i64R, Option.getD_none, Option.isSome_none] at HBA ⊢
        clear hin
        go_wp2_with fail
        refine (HBA _).mono ?_
        rintro e w3 ⟨rfl, rfl⟩
        go_wp2
        go_roundg (gk - 1)
        case measure => omega
        case rel => exact ⟨k + 1, by omega, by go_num, H2⟩
    · go_wp2_with fail
      refine (known_any _).mono ?_
      rintro e w3 ⟨rfl, rfl⟩
      go_wp2
      go_ret
      exact ⟨rfl, H.out.below⟩
end Go.Proofs.Ytcbddggalccgiaa
