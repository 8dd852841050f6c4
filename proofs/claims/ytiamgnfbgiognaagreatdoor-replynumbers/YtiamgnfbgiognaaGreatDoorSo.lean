/-
  The document's order of replies; its Same.
-/
import Derived.Test.YtiamgnfbgiognaaGreatDoorSl
namespace Go.Proofs.YtiamgnfbgiognaaGreatDoor
open Go.RowKit Go.PlainAid

theorem cmp_less : ∀ a b : List UInt8, (Lib.compareBytes a b < 0 ↔ Op.bytesLess a b = true)
  | [], [] => by simp [Lib.compareBytes, Op.bytesLess]
  | _ :: _, [] => by simp [Lib.compareBytes, Op.bytesLess]
  | [], _ :: _ => by simp [Lib.compareBytes, Op.bytesLess]
  | a :: x, b :: y => by
    have ih := cmp_less x y
    unfold Lib.compareBytes Op.bytesLess
    by_cases h1 : a < b
    · simp [h1]
    · by_cases h2 : b < a
      · have : a ≠ b := fun e => by subst e; exact h1 h2
        simp [h1, h2, this]
      · have e : a = b := UInt8.le_antisymm (UInt8.not_lt.1 h2) (UInt8.not_lt.1 h1)
        subst e
        simpa [h1] using ih
theorem shows_any (k : Int) (w : World) : Calls Tryz.prog 26 #[.int .i64 k] w fun e w' => e = .returned (.tuple #[.bool (hasS k), .bool (hasN k), .bool (hasL k)]) ∧ w' = w := by
  by_cases h1 : k = 1
  · subst h1; go_enter Tryz.func26, Tryz.ntmps26; go_wp2; go_ret3; exact ⟨rfl, rfl⟩
  by_cases h2 : k = 2
  · subst h2; go_enter Tryz.func26, Tryz.ntmps26; go_wp2; go_ret3; exact ⟨rfl, rfl⟩
  by_cases h3 : k = 3
  · subst h3; go_enter Tryz.func26, Tryz.ntmps26; go_wp2; go_ret3; exact ⟨rfl, rfl⟩
  by_cases h4 : k = 4
  · subst h4; go_enter Tryz.func26, Tryz.ntmps26; go_wp2; go_ret3; exact ⟨rfl, rfl⟩
  by_cases h7 : k = 7
  · subst h7; go_enter Tryz.func26, Tryz.ntmps26; go_wp2; go_ret3; exact ⟨rfl, rfl⟩
  by_cases h8 : k = 8
  · subst h8; go_enter Tryz.func26, Tryz.ntmps26; go_wp2; go_ret3; exact ⟨rfl, rfl⟩
  by_cases h9 : k = 9
  · subst h9; go_enter Tryz.func26, Tryz.ntmps26; go_wp2; go_ret3; exact ⟨rfl, rfl⟩
  have HE : Hid (hasS k = false ∧ hasN k = false ∧ hasL k = false) := ⟨decide_eq_false (by omega), decide_eq_false (by omega), decide_eq_false (by omega)⟩
  have HE2 : Hid ((k == 1) = false ∧ (k == 2) = false ∧ (k == 3) = false ∧ (k == 4) = false ∧ (k == 7) = false ∧ (k == 8) = false ∧ (k == 9) = false) := by
    show _ ∧ _
    simp [h1, h2, h3, h4, h7, h8, h9]

  go_enter Tryz.func26, Tryz.ntmps26
  go_wp2
  go_ret3
  obtain ⟨b1, b2, b3, b4, b7, b8, b9⟩ := HE2.out
  exact ⟨by rw [HE.out.1, HE.out.2.1, HE.out.2.2]; simp [b1, b2, b3, b4, b7, b8, b9], rfl⟩
theorem sign_any (b : Bool) (w : World) : Calls Tryz.prog 25 #[.bool b] w fun e w' => e = .returned (.int .i64 (if b then -1 else 1)) ∧ w' = w := by
  cases b
  all_goals
    go_enter Tryz.func25, Tryz.ntmps25
    go_wp2
    go_ret
    exact ⟨rfl, rfl⟩
/-- The document's order. -/
def ordT (t t' : RT) : Int := cmpT (can t) (can t')
theorem ord_k {t t' : RT} (h : t.k ≠ t'.k) : ordT t t' = if decide (t.k < t'.k) then -1 else 1 := by
  obtain ⟨k, s, n, l⟩ := t
  obtain ⟨k', s', n', l'⟩ := t'
  have h' : k ≠ k' := h
  unfold ordT
  rw [can_mk, can_mk, mean, mean, cmpT]
  have : cmpI k k' ≠ 0 := fun e => h' (cmpI_zero.1 e)
  show orI (orI (cmpI k k') _) _ = if decide (k < k') then -1 else 1
  unfold orI
  rw [if_neg this, if_neg this]
  unfold cmpI
  simp only [decide_eq_true_eq]
  split
  · rfl
  · rw [if_pos (by omega)]
theorem ord_n {s s' : ByteArray} {n n' : Int} {l l' : List RT} : ordT (.mk 3 s n l) (.mk 3 s' n' l') = if n = n' then 0 else if decide (n < n') then -1 else 1 := by
  unfold ordT
  rw [can_mk, can_mk]
  show cmpT (.mk 3 ⟨#[]⟩ n []) (.mk 3 ⟨#[]⟩ n' []) = _
  rw [cmpT, cmpL]
  simp only [cmpB, bytes_self, orI, cmpI]
  simp
  split <;> split <;> (try split) <;> omega
theorem ord_s {k : Int} (h : hasS k = true) {s s' : ByteArray} {n n' : Int} {l l' : List RT} : ordT (.mk k s n l) (.mk k s' n' l') = if s = s' then 0 else if Op.bytesLess s.toList s'.toList then -1 else 1 := by
  have hk : k = 1 ∨ k = 2 ∨ k = 4 := of_decide_eq_true h
  have hn : hasN k = false := decide_eq_false (by omega)
  have hl : hasL k = false := decide_eq_false (by omega)
  unfold ordT
  rw [can_mk, can_mk]
  unfold mean
  simp only [h, hn, hl, if_true, Bool.false_eq_true, if_false]
  rw [cmpT, cmpL]
  have e1 : cmpI k k = 0 := cmpI_zero.2 rfl
  have e2 : cmpI 0 0 = 0 := rfl
  rw [e1, e2]
  have h1 := bytes_one s.data.toList s'.data.toList
  have h2 := cmp_less s.data.toList s'.data.toList
  rw [ByteArray.toList_eq, ByteArray.toList_eq]
  by_cases e : s = s'
  · rw [if_pos e, e]
    unfold cmpB
    rw [bytes_self]; rfl
  · rw [if_neg e]
    have h3 : Lib.compareBytes s.data.toList s'.data.toList ≠ 0 := fun h => e (bytes_ext (bytes_zero _ _ h))
    unfold orI cmpB
    simp only [if_true, if_neg h3]
    cases hb : Op.bytesLess s.data.toList s'.data.toList
    · rw [hb] at h2; simp at h2; simp; omega
    · rw [hb] at h2; simp at h2; simp; omega
theorem ord_l {k : Int} (h : hasL k = true) {s s' : ByteArray} {n n' : Int} {l l' : List RT} : ordT (.mk k s n l) (.mk k s' n' l') = cmpL (l.map can) (l'.map can) := by
  have hk : k = 7 ∨ k = 8 ∨ k = 9 := of_decide_eq_true h
  have hn : hasN k = false := decide_eq_false (by omega)
  have hs : hasS k = false := decide_eq_false (by omega)
  unfold ordT
  rw [can_mk, can_mk]
  unfold mean
  simp only [h, hn, hs, if_true, Bool.false_eq_true, if_false]
  rw [cmpT]
  have e1 : cmpI k k = 0 := cmpI_zero.2 rfl
  have e2 : cmpI 0 0 = 0 := rfl
  have e3 : cmpB ⟨#[]⟩ ⟨#[]⟩ = 0 := rfl
  rw [e1, e2, e3]; rfl
theorem ord_0 {k : Int} (h1 : hasS k = false) (h2 : hasN k = false) (h3 : hasL k = false) {s s' : ByteArray} {n n' : Int} {l l' : List RT} : ordT (.mk k s n l) (.mk k s' n' l') = 0 := by
  unfold ordT
  rw [can_mk, can_mk]
  unfold mean
  simp only [h1, h2, h3, Bool.false_eq_true, if_false]
  exact cmpT_self _
end Go.Proofs.YtiamgnfbgiognaaGreatDoor
