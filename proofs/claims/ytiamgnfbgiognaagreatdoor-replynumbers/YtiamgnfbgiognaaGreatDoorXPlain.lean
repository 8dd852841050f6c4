/-
  plainText: the texts in which no command is named.
-/
import Derived.Test.YtiamgnfbgiognaaGreatDoorProg
import Derived.WalkKit
namespace Go.Proofs.YtiamgnfbgiognaaGreatDoor
open Go.RowKit

/-- What is told of a code that names no command; nothing of others. -/
def plainB (c : Int) : ByteArray :=
  if c = 1 then ⟨#[69, 82, 82, 32, 115, 121, 110, 116, 97, 120, 32, 101, 114, 114, 111, 114]⟩ else
  if c = 4 then ⟨#[87, 82, 79, 78, 71, 84, 89, 80, 69, 32, 79, 112, 101, 114, 97, 116, 105, 111, 110, 32, 97, 103, 97, 105, 110, 115, 116, 32, 97, 32, 107, 101, 121, 32, 104, 111, 108, 100, 105, 110, 103, 32, 116, 104, 101, 32, 119, 114, 111, 110, 103, 32, 107, 105, 110, 100, 32, 111, 102, 32, 118, 97, 108, 117, 101]⟩ else
  if c = 5 then ⟨#[69, 82, 82, 32, 118, 97, 108, 117, 101, 32, 105, 115, 32, 110, 111, 116, 32, 97, 110, 32, 105, 110, 116, 101, 103, 101, 114, 32, 111, 114, 32, 111, 117, 116, 32, 111, 102, 32, 114, 97, 110, 103, 101]⟩ else
  if c = 6 then ⟨#[69, 82, 82, 32, 105, 110, 99, 114, 101, 109, 101, 110, 116, 32, 111, 114, 32, 100, 101, 99, 114, 101, 109, 101, 110, 116, 32, 119, 111, 117, 108, 100, 32, 111, 118, 101, 114, 102, 108, 111, 119]⟩ else
  if c = 7 then ⟨#[69, 82, 82, 32, 110, 111, 32, 115, 117, 99, 104, 32, 107, 101, 121]⟩ else
  if c = 8 then ⟨#[69, 82, 82, 32, 105, 110, 100, 101, 120, 32, 111, 117, 116, 32, 111, 102, 32, 114, 97, 110, 103, 101]⟩ else
  if c = 9 then ⟨#[69, 82, 82, 32, 118, 97, 108, 117, 101, 32, 105, 115, 32, 111, 117, 116, 32, 111, 102, 32, 114, 97, 110, 103, 101]⟩ else
  if c = 10 then ⟨#[69, 82, 82, 32, 98, 105, 116, 32, 105, 115, 32, 110, 111, 116, 32, 97, 110, 32, 105, 110, 116, 101, 103, 101, 114, 32, 111, 114, 32, 111, 117, 116, 32, 111, 102, 32, 114, 97, 110, 103, 101]⟩ else
  if c = 11 then ⟨#[69, 82, 82, 32, 115, 116, 114, 105, 110, 103, 32, 101, 120, 99, 101, 101, 100, 115, 32, 109, 97, 120, 105, 109, 117, 109, 32, 97, 108, 108, 111, 119, 101, 100, 32, 115, 105, 122, 101]⟩ else
  if c = 13 then ⟨#[69, 82, 82, 32, 105, 110, 118, 97, 108, 105, 100, 32, 99, 117, 114, 115, 111, 114]⟩ else
  if c = 14 then ⟨#[69, 82, 82, 32, 115, 111, 117, 114, 99, 101, 32, 97, 110, 100, 32, 100, 101, 115, 116, 105, 110, 97, 116, 105, 111, 110, 32, 111, 98, 106, 101, 99, 116, 115, 32, 97, 114, 101, 32, 116, 104, 101, 32, 115, 97, 109, 101]⟩ else
  if c = 15 then ⟨#[69, 82, 82, 32, 104, 97, 115, 104, 32, 118, 97, 108, 117, 101, 32, 105, 115, 32, 110, 111, 116, 32, 97, 110, 32, 105, 110, 116, 101, 103, 101, 114]⟩ else
  if c = 16 then ⟨#[69, 82, 82, 32, 80, 114, 111, 116, 111, 99, 111, 108, 32, 101, 114, 114, 111, 114]⟩ else
  if c = 17 then ⟨#[69, 82, 82, 32, 77, 85, 76, 84, 73, 32, 99, 97, 108, 108, 115, 32, 99, 97, 110, 32, 110, 111, 116, 32, 98, 101, 32, 110, 101, 115, 116, 101, 100]⟩ else
  if c = 18 then ⟨#[69, 82, 82, 32, 69, 88, 69, 67, 32, 119, 105, 116, 104, 111, 117, 116, 32, 77, 85, 76, 84, 73]⟩ else
  if c = 19 then ⟨#[69, 82, 82, 32, 68, 73, 83, 67, 65, 82, 68, 32, 119, 105, 116, 104, 111, 117, 116, 32, 77, 85, 76, 84, 73]⟩ else
  if c = 20 then ⟨#[69, 82, 82, 32, 87, 65, 84, 67, 72, 32, 105, 110, 115, 105, 100, 101, 32, 77, 85, 76, 84, 73, 32, 105, 115, 32, 110, 111, 116, 32, 97, 108, 108, 111, 119, 101, 100]⟩ else
  if c = 21 then ⟨#[69, 88, 69, 67, 65, 66, 79, 82, 84, 32, 84, 114, 97, 110, 115, 97, 99, 116, 105, 111, 110, 32, 100, 105, 115, 99, 97, 114, 100, 101, 100, 32, 98, 101, 99, 97, 117, 115, 101, 32, 111, 102, 32, 112, 114, 101, 118, 105, 111, 117, 115, 32, 101, 114, 114, 111, 114, 115, 46]⟩ else
  if c = 22 then ⟨#[78, 79, 80, 82, 79, 84, 79, 32, 117, 110, 115, 117, 112, 112, 111, 114, 116, 101, 100, 32, 112, 114, 111, 116, 111, 99, 111, 108, 32, 118, 101, 114, 115, 105, 111, 110]⟩ else
  if c = 23 then ⟨#[69, 82, 82, 32, 116, 111, 111, 32, 109, 117, 99, 104]⟩ else
  if c = 24 then ⟨#[69, 82, 82, 32, 98, 97, 100, 32, 102, 111, 114, 109]⟩ else
  if c = 25 then ⟨#[69, 82, 82, 32, 111, 102, 102, 115, 101, 116, 32, 105, 115, 32, 111, 117, 116, 32, 111, 102, 32, 114, 97, 110, 103, 101]⟩ else
  ⟨#[]⟩

theorem plain_1 (w : World) : Calls Tryz.prog 33 #[.int .i64 1] w fun e w' => e = .returned (.string (plainB 1)) ∧ w' = w := by
  go_enter Tryz.func33, Tryz.ntmps33
  go_wp2
  go_ret
  exact ⟨rfl, rfl⟩
theorem plain_4 (w : World) : Calls Tryz.prog 33 #[.int .i64 4] w fun e w' => e = .returned (.string (plainB 4)) ∧ w' = w := by
  go_enter Tryz.func33, Tryz.ntmps33
  go_wp2
  go_ret
  exact ⟨rfl, rfl⟩
theorem plain_5 (w : World) : Calls Tryz.prog 33 #[.int .i64 5] w fun e w' => e = .returned (.string (plainB 5)) ∧ w' = w := by
  go_enter Tryz.func33, Tryz.ntmps33
  go_wp2
  go_ret
  exact ⟨rfl, rfl⟩
theorem plain_6 (w : World) : Calls Tryz.prog 33 #[.int .i64 6] w fun e w' => e = .returned (.string (plainB 6)) ∧ w' = w := by
  go_enter Tryz.func33, Tryz.ntmps33
  go_wp2
  go_ret
  exact ⟨rfl, rfl⟩
theorem plain_7 (w : World) : Calls Tryz.prog 33 #[.int .i64 7] w fun e w' => e = .returned (.string (plainB 7)) ∧ w' = w := by
  go_enter Tryz.func33, Tryz.ntmps33
  go_wp2
  go_ret
  exact ⟨rfl, rfl⟩
theorem plain_8 (w : World) : Calls Tryz.prog 33 #[.int .i64 8] w fun e w' => e = .returned (.string (plainB 8)) ∧ w' = w := by
  go_enter Tryz.func33, Tryz.ntmps33
  go_wp2
  go_ret
  exact ⟨rfl, rfl⟩
theorem plain_9 (w : World) : Calls Tryz.prog 33 #[.int .i64 9] w fun e w' => e = .returned (.string (plainB 9)) ∧ w' = w := by
  go_enter Tryz.func33, Tryz.ntmps33
  go_wp2
  go_ret
  exact ⟨rfl, rfl⟩
theorem plain_10 (w : World) : Calls Tryz.prog 33 #[.int .i64 10] w fun e w' => e = .returned (.string (plainB 10)) ∧ w' = w := by
  go_enter Tryz.func33, Tryz.ntmps33
  go_wp2
  go_ret
  exact ⟨rfl, rfl⟩
theorem plain_11 (w : World) : Calls Tryz.prog 33 #[.int .i64 11] w fun e w' => e = .returned (.string (plainB 11)) ∧ w' = w := by
  go_enter Tryz.func33, Tryz.ntmps33
  go_wp2
  go_ret
  exact ⟨rfl, rfl⟩
theorem plain_13 (w : World) : Calls Tryz.prog 33 #[.int .i64 13] w fun e w' => e = .returned (.string (plainB 13)) ∧ w' = w := by
  go_enter Tryz.func33, Tryz.ntmps33
  go_wp2
  go_ret
  exact ⟨rfl, rfl⟩
theorem plain_14 (w : World) : Calls Tryz.prog 33 #[.int .i64 14] w fun e w' => e = .returned (.string (plainB 14)) ∧ w' = w := by
  go_enter Tryz.func33, Tryz.ntmps33
  go_wp2
  go_ret
  exact ⟨rfl, rfl⟩
theorem plain_15 (w : World) : Calls Tryz.prog 33 #[.int .i64 15] w fun e w' => e = .returned (.string (plainB 15)) ∧ w' = w := by
  go_enter Tryz.func33, Tryz.ntmps33
  go_wp2
  go_ret
  exact ⟨rfl, rfl⟩
theorem plain_16 (w : World) : Calls Tryz.prog 33 #[.int .i64 16] w fun e w' => e = .returned (.string (plainB 16)) ∧ w' = w := by
  go_enter Tryz.func33, Tryz.ntmps33
  go_wp2
  go_ret
  exact ⟨rfl, rfl⟩
theorem plain_17 (w : World) : Calls Tryz.prog 33 #[.int .i64 17] w fun e w' => e = .returned (.string (plainB 17)) ∧ w' = w := by
  go_enter Tryz.func33, Tryz.ntmps33
  go_wp2
  go_ret
  exact ⟨rfl, rfl⟩
theorem plain_18 (w : World) : Calls Tryz.prog 33 #[.int .i64 18] w fun e w' => e = .returned (.string (plainB 18)) ∧ w' = w := by
  go_enter Tryz.func33, Tryz.ntmps33
  go_wp2
  go_ret
  exact ⟨rfl, rfl⟩
theorem plain_19 (w : World) : Calls Tryz.prog 33 #[.int .i64 19] w fun e w' => e = .returned (.string (plainB 19)) ∧ w' = w := by
  go_enter Tryz.func33, Tryz.ntmps33
  go_wp2
  go_ret
  exact ⟨rfl, rfl⟩
theorem plain_20 (w : World) : Calls Tryz.prog 33 #[.int .i64 20] w fun e w' => e = .returned (.string (plainB 20)) ∧ w' = w := by
  go_enter Tryz.func33, Tryz.ntmps33
  go_wp2
  go_ret
  exact ⟨rfl, rfl⟩
theorem plain_21 (w : World) : Calls Tryz.prog 33 #[.int .i64 21] w fun e w' => e = .returned (.string (plainB 21)) ∧ w' = w := by
  go_enter Tryz.func33, Tryz.ntmps33
  go_wp2
  go_ret
  exact ⟨rfl, rfl⟩
theorem plain_22 (w : World) : Calls Tryz.prog 33 #[.int .i64 22] w fun e w' => e = .returned (.string (plainB 22)) ∧ w' = w := by
  go_enter Tryz.func33, Tryz.ntmps33
  go_wp2
  go_ret
  exact ⟨rfl, rfl⟩
theorem plain_23 (w : World) : Calls Tryz.prog 33 #[.int .i64 23] w fun e w' => e = .returned (.string (plainB 23)) ∧ w' = w := by
  go_enter Tryz.func33, Tryz.ntmps33
  go_wp2
  go_ret
  exact ⟨rfl, rfl⟩
theorem plain_24 (w : World) : Calls Tryz.prog 33 #[.int .i64 24] w fun e w' => e = .returned (.string (plainB 24)) ∧ w' = w := by
  go_enter Tryz.func33, Tryz.ntmps33
  go_wp2
  go_ret
  exact ⟨rfl, rfl⟩
theorem plain_25 (w : World) : Calls Tryz.prog 33 #[.int .i64 25] w fun e w' => e = .returned (.string (plainB 25)) ∧ w' = w := by
  go_enter Tryz.func33, Tryz.ntmps33
  go_wp2
  go_ret
  exact ⟨rfl, rfl⟩

theorem plain_else (c : Int) (w : World) (h1 : ¬ c = 1) (h4 : ¬ c = 4) (h5 : ¬ c = 5) (h6 : ¬ c = 6) (h7 : ¬ c = 7) (h8 : ¬ c = 8) (h9 : ¬ c = 9) (h10 : ¬ c = 10) (h11 : ¬ c = 11) (h13 : ¬ c = 13) (h14 : ¬ c = 14) (h15 : ¬ c = 15) (h16 : ¬ c = 16) (h17 : ¬ c = 17) (h18 : ¬ c = 18) (h19 : ¬ c = 19) (h20 : ¬ c = 20) (h21 : ¬ c = 21) (h22 : ¬ c = 22) (h23 : ¬ c = 23) (h24 : ¬ c = 24) (h25 : ¬ c = 25) : Calls Tryz.prog 33 #[.int .i64 c] w fun e w' => e = .returned (.string (plainB c)) ∧ w' = w := by
  have HP : Hid (plainB c = ⟨#[]⟩) := by
    show plainB c = _
    unfold plainB
    rw [if_neg h1, if_neg h4, if_neg h5, if_neg h6, if_neg h7, if_neg h8, if_neg h9, if_neg h10, if_neg h11, if_neg h13, if_neg h14, if_neg h15, if_neg h16, if_neg h17, if_neg h18, if_neg h19, if_neg h20, if_neg h21, if_neg h22, if_neg h23, if_neg h24, if_neg h25]
  have g1 : (c == 1) = false := by simp [h1]
  have g4 : (c == 4) = false := by simp [h4]
  have g5 : (c == 5) = false := by simp [h5]
  have g6 : (c == 6) = false := by simp [h6]
  have g7 : (c == 7) = false := by simp [h7]
  have g8 : (c == 8) = false := by simp [h8]
  have g9 : (c == 9) = false := by simp [h9]
  have g10 : (c == 10) = false := by simp [h10]
  have g11 : (c == 11) = false := by simp [h11]
  have g13 : (c == 13) = false := by simp [h13]
  have g14 : (c == 14) = false := by simp [h14]
  have g15 : (c == 15) = false := by simp [h15]
  have g16 : (c == 16) = false := by simp [h16]
  have g17 : (c == 17) = false := by simp [h17]
  have g18 : (c == 18) = false := by simp [h18]
  have g19 : (c == 19) = false := by simp [h19]
  have g20 : (c == 20) = false := by simp [h20]
  have g21 : (c == 21) = false := by simp [h21]
  have g22 : (c == 22) = false := by simp [h22]
  have g23 : (c == 23) = false := by simp [h23]
  have g24 : (c == 24) = false := by simp [h24]
  have g25 : (c == 25) = false := by simp [h25]
  clear h1 h4 h5 h6 h7 h8 h9 h10 h11 h13 h14 h15 h16 h17 h18 h19 h20 h21 h22 h23 h24 h25
  go_enter Tryz.func33, Tryz.ntmps33
  go_wp2
  go_ret
  exact ⟨by rw [HP.out]; rfl, rfl⟩

theorem plainText_any (c : Int) (w : World) : Calls Tryz.prog 33 #[.int .i64 c] w fun e w' => e = .returned (.string (plainB c)) ∧ w' = w := by
  by_cases h1 : c = 1
  · subst h1; exact plain_1 w
  by_cases h4 : c = 4
  · subst h4; exact plain_4 w
  by_cases h5 : c = 5
  · subst h5; exact plain_5 w
  by_cases h6 : c = 6
  · subst h6; exact plain_6 w
  by_cases h7 : c = 7
  · subst h7; exact plain_7 w
  by_cases h8 : c = 8
  · subst h8; exact plain_8 w
  by_cases h9 : c = 9
  · subst h9; exact plain_9 w
  by_cases h10 : c = 10
  · subst h10; exact plain_10 w
  by_cases h11 : c = 11
  · subst h11; exact plain_11 w
  by_cases h13 : c = 13
  · subst h13; exact plain_13 w
  by_cases h14 : c = 14
  · subst h14; exact plain_14 w
  by_cases h15 : c = 15
  · subst h15; exact plain_15 w
  by_cases h16 : c = 16
  · subst h16; exact plain_16 w
  by_cases h17 : c = 17
  · subst h17; exact plain_17 w
  by_cases h18 : c = 18
  · subst h18; exact plain_18 w
  by_cases h19 : c = 19
  · subst h19; exact plain_19 w
  by_cases h20 : c = 20
  · subst h20; exact plain_20 w
  by_cases h21 : c = 21
  · subst h21; exact plain_21 w
  by_cases h22 : c = 22
  · subst h22; exact plain_22 w
  by_cases h23 : c = 23
  · subst h23; exact plain_23 w
  by_cases h24 : c = 24
  · subst h24; exact plain_24 w
  by_cases h25 : c = 25
  · subst h25; exact plain_25 w
  exact plain_else c w h1 h4 h5 h6 h7 h8 h9 h10 h11 h13 h14 h15 h16 h17 h18 h19 h20 h21 h22 h23 h24 h25
end Go.Proofs.YtiamgnfbgiognaaGreatDoor
