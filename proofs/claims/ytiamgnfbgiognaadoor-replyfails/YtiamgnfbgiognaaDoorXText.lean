/-
  Text, and the document's own Text: what a client is told.
-/
import Derived.Test.YtiamgnfbgiognaaDoorXPlain
import Derived.Test.YtiamgnfbgiognaaDoorXShown
namespace Go.Proofs.YtiamgnfbgiognaaDoor
open Go.RowKit

/-- What is told of the code c, the name n as it is shown. -/
def textB (c : Int) (n : ByteArray) : ByteArray :=
  if c = 2 then (⟨#[69, 82, 82, 32, 119, 114, 111, 110, 103, 32, 110, 117, 109, 98, 101, 114, 32, 111, 102, 32, 97, 114, 103, 117, 109, 101, 110, 116, 115, 32, 102, 111, 114, 32, 39]⟩ : ByteArray) ++ n ++ ⟨#[39, 32, 99, 111, 109, 109, 97, 110, 100]⟩ else
  if c = 3 then (⟨#[69, 82, 82, 32, 117, 110, 107, 110, 111, 119, 110, 32, 99, 111, 109, 109, 97, 110, 100, 32, 39]⟩ : ByteArray) ++ n ++ ⟨#[39]⟩ else
  if c = 12 then (⟨#[69, 82, 82, 32, 105, 110, 118, 97, 108, 105, 100, 32, 101, 120, 112, 105, 114, 101, 32, 116, 105, 109, 101, 32, 105, 110, 32, 39]⟩ : ByteArray) ++ n ++ ⟨#[39, 32, 99, 111, 109, 109, 97, 110, 100]⟩ else
  plainB c

theorem size_shownB (s : ByteArray) : (shownB s).size = s.size := by
  show ((s.data.toList.map qb).toArray).size = s.data.size
  simp

set_option maxHeartbeats 400000 in
theorem Text_any (c : Int) (s n : ByteArray) (w : World) (hs : s.size ≤ 1000) (hn : shownB s = n) : Calls Tryd.prog 13 #[.int .i64 c, .string s] w fun e w' => e = .returned (.string (textB c n)) ∧ Below w.heap.size w w' := by
  have hsz : n.size ≤ 1000 := by rw [← hn, size_shownB]; exact hs
  have hs2 : s.size ≤ maxLen := by unfold maxLen; omega
  have HN : Hid (shownB s = n) := hn
  clear hn hs
  by_cases h2 : c = 2
  · subst h2
    have HP : Hid (textB 2 n = (⟨#[69, 82, 82, 32, 119, 114, 111, 110, 103, 32, 110, 117, 109, 98, 101, 114, 32, 111, 102, 32, 97, 114, 103, 117, 109, 101, 110, 116, 115, 32, 102, 111, 114, 32, 39]⟩ : ByteArray) ++ n ++ ⟨#[39, 32, 99, 111, 109, 109, 97, 110, 100]⟩) := rfl
    go_enter Tryd.func13, Tryd.ntmps13
    go_wp2_with (go_at_call 20; refine (shown_any s _ hs2).mono ?_; rintro e w' ⟨rfl, hb⟩; rw [HN.out])
    go_ret
    exact ⟨by rw [HP.out]; rfl, hb⟩
  by_cases h3 : c = 3
  · subst h3
    have HP : Hid (textB 3 n = (⟨#[69, 82, 82, 32, 117, 110, 107, 110, 111, 119, 110, 32, 99, 111, 109, 109, 97, 110, 100, 32, 39]⟩ : ByteArray) ++ n ++ ⟨#[39]⟩) := rfl
    go_enter Tryd.func13, Tryd.ntmps13
    go_wp2_with (go_at_call 20; refine (shown_any s _ hs2).mono ?_; rintro e w' ⟨rfl, hb⟩; rw [HN.out])
    go_ret
    exact ⟨by rw [HP.out]; rfl, hb⟩
  by_cases h12 : c = 12
  · subst h12
    have HP : Hid (textB 12 n = (⟨#[69, 82, 82, 32, 105, 110, 118, 97, 108, 105, 100, 32, 101, 120, 112, 105, 114, 101, 32, 116, 105, 109, 101, 32, 105, 110, 32, 39]⟩ : ByteArray) ++ n ++ ⟨#[39, 32, 99, 111, 109, 109, 97, 110, 100]⟩) := rfl
    go_enter Tryd.func13, Tryd.ntmps13
    go_wp2_with (go_at_call 20; refine (shown_any s _ hs2).mono ?_; rintro e w' ⟨rfl, hb⟩; rw [HN.out])
    go_ret
    exact ⟨by rw [HP.out]; rfl, hb⟩
  have HP : Hid (textB c n = plainB c) := by
    show textB c n = _
    unfold textB
    rw [if_neg h2, if_neg h3, if_neg h12]
  have g2 : (c == 2) = false := by simp [h2]
  have g3 : (c == 3) = false := by simp [h3]
  have g12 : (c == 12) = false := by simp [h12]
  clear h2 h3 h12
  go_enter Tryd.func13, Tryd.ntmps13
  go_wp2_with (go_at_call 21; refine (plainText_any c _).mono ?_; rintro e w ⟨rfl, rfl⟩)
  go_ret
  exact ⟨by rw [HP.out]; rfl, Below.refl _ _⟩

end Go.Proofs.YtiamgnfbgiognaaDoor
