/-
  Text, and the document's own Text: what a client is told.
-/
import Derived.Test.YtiamgnfbgiognaaGreatDoorXPlain
import Derived.Test.YtiamgnfbgiognaaGreatDoorXShown
namespace Go.Proofs.YtiamgnfbgiognaaGreatDoor
open Go.RowKit

/-- What is told of the code c, the name n as it is shown. -/
def textB (c : Int) (n : ByteArray) : ByteArray :=
  if c = 2 then (⟨#[69, 82, 82, 32, 119, 114, 111, 110, 103, 32, 110, 117, 109, 98, 101, 114, 32, 111, 102, 32, 97, 114, 103, 117, 109, 101, 110, 116, 115, 32, 102, 111, 114, 32, 39]⟩ : ByteArray) ++ n ++ ⟨#[39, 32, 99, 111, 109, 109, 97, 110, 100]⟩ else
  if c = 3 then (⟨#[69, 82, 82, 32, 117, 110, 107, 110, 111, 119, 110, 32, 99, 111, 109, 109, 97, 110, 100, 32, 39]⟩ : ByteArray) ++ n ++ ⟨#[39]⟩ else
  if c = 12 then (⟨#[69, 82, 82, 32, 105, 110, 118, 97, 108, 105, 100, 32, 101, 120, 112, 105, 114, 101, 32, 116, 105, 109, 101, 32, 105, 110, 32, 39]⟩ : ByteArray) ++ n ++ ⟨#[39, 32, 99, 111, 109, 109, 97, 110, 100]⟩ else
  plainB c

theorem size_shownB (s : ByteArray) : (shownB s).size = s.size := by
  show ((s.data.toList.map qb).toArray).size = s.data.size
  simp

set_option maxHeartbeats 400000 in
theorem Text_any (c : Int) (s n : ByteArray) (w : World) (hs : s.size ≤ 1000) (hn : shownB s = n) : Calls Tryz.prog 21 #[.int .i64 c, .string s] w fun e w' => e = .returned (.string (textB c n)) ∧ Below w.heap.size w w' := by
  have hsz : n.size ≤ 1000 := by rw [← hn, size_shownB]; exact hs
  have hs2 : s.size ≤ maxLen := by unfold maxLen; omega
  have HN : Hid (shownB s = n) := hn
  clear hn hs
  by_cases h2 : c = 2
  · subst h2
    have HP : Hid (textB 2 n = (⟨#[69, 82, 82, 32, 119, 114, 111, 110, 103, 32, 110, 117, 109, 98, 101, 114, 32, 111, 102, 32, 97, 114, 103, 117, 109, 101, 110, 116, 115, 32, 102, 111, 114, 32, 39]⟩ : ByteArray) ++ n ++ ⟨#[39, 32, 99, 111, 109, 109, 97, 110, 100]⟩) := rfl
    go_enter Tryz.func21, Tryz.ntmps21
    go_wp2_with (go_at_call 32; refine (shown_any s _ hs2).mono ?_; rintro e w' ⟨rfl, hb⟩; rw [HN.out])
    go_ret
    exact ⟨by rw [HP.out]; rfl, hb⟩
  by_cases h3 : c = 3
  · subst h3
    have HP : Hid (textB 3 n = (⟨#[69, 82, 82, 32, 117, 110, 107, 110, 111, 119, 110, 32, 99, 111, 109, 109, 97, 110, 100, 32, 39]⟩ : ByteArray) ++ n ++ ⟨#[39]⟩) := rfl
    go_enter Tryz.func21, Tryz.ntmps21
    go_wp2_with (go_at_call 32; refine (shown_any s _ hs2).mono ?_; rintro e w' ⟨rfl, hb⟩; rw [HN.out])
    go_ret
    exact ⟨by rw [HP.out]; rfl, hb⟩
  by_cases h12 : c = 12
  · subst h12
    have HP : Hid (textB 12 n = (⟨#[69, 82, 82, 32, 105, 110, 118, 97, 108, 105, 100, 32, 101, 120, 112, 105, 114, 101, 32, 116, 105, 109, 101, 32, 105, 110, 32, 39]⟩ : ByteArray) ++ n ++ ⟨#[39, 32, 99, 111, 109, 109, 97, 110, 100]⟩) := rfl
    go_enter Tryz.func21, Tryz.ntmps21
    go_wp2_with (go_at_call 32; refine (shown_any s _ hs2).mono ?_; rintro e w' ⟨rfl, hb⟩; rw [HN.out])
    go_ret
    exact ⟨by rw [HP.out]; rfl, hb⟩
  have HP : Hid (textB c n = plainB c) := by
    show textB c n = _
    unfold textB
    rw [if_neg h2, if_neg h3, if_neg h12]
  have g2 : (c == 2) = false := by simp [h2]
  have g3 : (c == 3) = false := by simp [h3]
  have g12 : (c == 12) = false := by simp [h12]
  clear h2 h3 h12
  go_enter Tryz.func21, Tryz.ntmps21
  go_wp2_with (go_at_call 33; refine (plainText_any c _).mono ?_; rintro e w ⟨rfl, rfl⟩)
  go_ret
  exact ⟨by rw [HP.out]; rfl, Below.refl _ _⟩

theorem more_13 (w : World) : Calls Tryz.prog 23 #[.int .i64 13] w fun e w' => e = .returned (.string (plainB 13)) ∧ w' = w := by
  go_enter Tryz.func23, Tryz.ntmps23
  go_wp2
  go_ret
  exact ⟨rfl, rfl⟩
theorem more_14 (w : World) : Calls Tryz.prog 23 #[.int .i64 14] w fun e w' => e = .returned (.string (plainB 14)) ∧ w' = w := by
  go_enter Tryz.func23, Tryz.ntmps23
  go_wp2
  go_ret
  exact ⟨rfl, rfl⟩
theorem more_15 (w : World) : Calls Tryz.prog 23 #[.int .i64 15] w fun e w' => e = .returned (.string (plainB 15)) ∧ w' = w := by
  go_enter Tryz.func23, Tryz.ntmps23
  go_wp2
  go_ret
  exact ⟨rfl, rfl⟩
theorem more_16 (w : World) : Calls Tryz.prog 23 #[.int .i64 16] w fun e w' => e = .returned (.string (plainB 16)) ∧ w' = w := by
  go_enter Tryz.func23, Tryz.ntmps23
  go_wp2
  go_ret
  exact ⟨rfl, rfl⟩
theorem more_17 (w : World) : Calls Tryz.prog 23 #[.int .i64 17] w fun e w' => e = .returned (.string (plainB 17)) ∧ w' = w := by
  go_enter Tryz.func23, Tryz.ntmps23
  go_wp2
  go_ret
  exact ⟨rfl, rfl⟩
theorem more_18 (w : World) : Calls Tryz.prog 23 #[.int .i64 18] w fun e w' => e = .returned (.string (plainB 18)) ∧ w' = w := by
  go_enter Tryz.func23, Tryz.ntmps23
  go_wp2
  go_ret
  exact ⟨rfl, rfl⟩
theorem more_19 (w : World) : Calls Tryz.prog 23 #[.int .i64 19] w fun e w' => e = .returned (.string (plainB 19)) ∧ w' = w := by
  go_enter Tryz.func23, Tryz.ntmps23
  go_wp2
  go_ret
  exact ⟨rfl, rfl⟩
theorem more_20 (w : World) : Calls Tryz.prog 23 #[.int .i64 20] w fun e w' => e = .returned (.string (plainB 20)) ∧ w' = w := by
  go_enter Tryz.func23, Tryz.ntmps23
  go_wp2
  go_ret
  exact ⟨rfl, rfl⟩
theorem more_21 (w : World) : Calls Tryz.prog 23 #[.int .i64 21] w fun e w' => e = .returned (.string (plainB 21)) ∧ w' = w := by
  go_enter Tryz.func23, Tryz.ntmps23
  go_wp2
  go_ret
  exact ⟨rfl, rfl⟩
theorem more_22 (w : World) : Calls Tryz.prog 23 #[.int .i64 22] w fun e w' => e = .returned (.string (plainB 22)) ∧ w' = w := by
  go_enter Tryz.func23, Tryz.ntmps23
  go_wp2
  go_ret
  exact ⟨rfl, rfl⟩
theorem more_23 (w : World) : Calls Tryz.prog 23 #[.int .i64 23] w fun e w' => e = .returned (.string (plainB 23)) ∧ w' = w := by
  go_enter Tryz.func23, Tryz.ntmps23
  go_wp2
  go_ret
  exact ⟨rfl, rfl⟩
theorem more_24 (w : World) : Calls Tryz.prog 23 #[.int .i64 24] w fun e w' => e = .returned (.string (plainB 24)) ∧ w' = w := by
  go_enter Tryz.func23, Tryz.ntmps23
  go_wp2
  go_ret
  exact ⟨rfl, rfl⟩
theorem more_25 (w : World) : Calls Tryz.prog 23 #[.int .i64 25] w fun e w' => e = .returned (.string (plainB 25)) ∧ w' = w := by
  go_enter Tryz.func23, Tryz.ntmps23
  go_wp2
  go_ret
  exact ⟨rfl, rfl⟩
theorem more_else (c : Int) (w : World) (HP : Hid (plainB c = ⟨#[]⟩)) (g13 : (c == 13) = false) (g14 : (c == 14) = false) (g15 : (c == 15) = false) (g16 : (c == 16) = false) (g17 : (c == 17) = false) (g18 : (c == 18) = false) (g19 : (c == 19) = false) (g20 : (c == 20) = false) (g21 : (c == 21) = false) (g22 : (c == 22) = false) (g23 : (c == 23) = false) (g24 : (c == 24) = false) (g25 : (c == 25) = false) : Calls Tryz.prog 23 #[.int .i64 c] w fun e w' => e = .returned (.string (plainB c)) ∧ w' = w := by
  go_enter Tryz.func23, Tryz.ntmps23
  go_wp2
  go_ret
  exact ⟨by rw [HP.out]; rfl, rfl⟩
theorem more_any (c : Int) (w : World) (h1 : ¬ c = 1) (h4 : ¬ c = 4) (h5 : ¬ c = 5) (h6 : ¬ c = 6) (h7 : ¬ c = 7) (h8 : ¬ c = 8) (h9 : ¬ c = 9) (h10 : ¬ c = 10) (h11 : ¬ c = 11) : Calls Tryz.prog 23 #[.int .i64 c] w fun e w' => e = .returned (.string (plainB c)) ∧ w' = w := by
  by_cases h13 : c = 13
  · subst h13; exact more_13 w
  by_cases h14 : c = 14
  · subst h14; exact more_14 w
  by_cases h15 : c = 15
  · subst h15; exact more_15 w
  by_cases h16 : c = 16
  · subst h16; exact more_16 w
  by_cases h17 : c = 17
  · subst h17; exact more_17 w
  by_cases h18 : c = 18
  · subst h18; exact more_18 w
  by_cases h19 : c = 19
  · subst h19; exact more_19 w
  by_cases h20 : c = 20
  · subst h20; exact more_20 w
  by_cases h21 : c = 21
  · subst h21; exact more_21 w
  by_cases h22 : c = 22
  · subst h22; exact more_22 w
  by_cases h23 : c = 23
  · subst h23; exact more_23 w
  by_cases h24 : c = 24
  · subst h24; exact more_24 w
  by_cases h25 : c = 25
  · subst h25; exact more_25 w
  refine more_else c w ?_ (by simp [h13]) (by simp [h14]) (by simp [h15]) (by simp [h16]) (by simp [h17]) (by simp [h18]) (by simp [h19]) (by simp [h20]) (by simp [h21]) (by simp [h22]) (by simp [h23]) (by simp [h24]) (by simp [h25])
  show plainB c = _
  unfold plainB
  rw [if_neg h1, if_neg h4, if_neg h5, if_neg h6, if_neg h7, if_neg h8, if_neg h9, if_neg h10, if_neg h11, if_neg h13, if_neg h14, if_neg h15, if_neg h16, if_neg h17, if_neg h18, if_neg h19, if_neg h20, if_neg h21, if_neg h22, if_neg h23, if_neg h24, if_neg h25]
end Go.Proofs.YtiamgnfbgiognaaGreatDoor
