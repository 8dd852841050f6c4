/-
  Requests, pure: what is left is the row's end; more bytes behind make no difference to what was told.
-/
import Derived.Test.YtkoepgjdjbmknaaRq
namespace Go.Proofs.Ytkoepgjdjbmknaa

/-- r is l's end, and something stands ahead of it. -/
def Suf (l r : List UInt8) : Prop := ∃ x, x ≠ [] ∧ l = x ++ r
theorem Suf.len {l r : List UInt8} (h : Suf l r) : r.length < l.length := by
  obtain ⟨x, hx, rfl⟩ := h
  have := List.length_pos_iff.2 hx
  simp; omega
theorem Suf.drop {l r : List UInt8} (h : Suf l r) : l.drop (l.length - r.length) = r := by
  obtain ⟨x, hx, rfl⟩ := h
  rw [List.length_append, Nat.add_sub_cancel, List.drop_left]
theorem Suf.trans {l r s : List UInt8} (h : Suf l r) (h2 : Suf r s) : Suf l s := by
  obtain ⟨x, hx, rfl⟩ := h
  obtain ⟨y, hy, rfl⟩ := h2
  exact ⟨x ++ y, by simp [hx], by simp⟩
theorem Suf.of_drop {l : List UInt8} {k : Nat} (h0 : 0 < k) (h : k ≤ l.length) : Suf l (l.drop k) :=
  ⟨l.take k, by intro e; have := congrArg List.length e; rw [List.length_take, List.length_nil] at this; omega, (List.take_append_drop k l).symm⟩
theorem Suf.cons {b : UInt8} {l r : List UInt8} (h : Suf l r) : Suf (b :: l) r := by
  obtain ⟨x, hx, rfl⟩ := h
  exact ⟨b :: x, by simp, rfl⟩

theorem upR_yes {i : Option Nat} {k m : Nat} {l x r : List UInt8} (h : upR i k m l = .yes x r) : ∃ j, i = some j ∧ ¬ m < j ∧ x = l.take j ∧ r = l.drop (j + k) := by
  unfold upR at h
  split at h
  · split at h
    · cases h
    · rename_i j hj
      cases h
      exact ⟨_, rfl, hj, rfl, rfl⟩
  · split at h <;> cases h
theorem numR_yes {sign : UInt8} {lo hi n : Int} {l r : List UInt8} (h : numR sign lo hi l = .yes n r) : ∃ t x, l = sign :: t ∧ upR (crlf t) 2 32 t = .yes x r ∧ parseL x = some n ∧ ¬ (n < lo ∨ hi < n) := by
  cases l with
  | nil => cases h
  | cons b t =>
    rw [numR] at h
    split at h
    · rename_i hb
      subst hb
      split at h
      · split at h
        · split at h
          · cases h
          · rename_i hu _ _ hp hc
            cases h
            exact ⟨t, _, rfl, hu, hp, hc⟩
        · cases h
      · cases h
      · cases h
    · cases h
theorem numR_suf {sign : UInt8} {lo hi n : Int} {l r : List UInt8} (h : numR sign lo hi l = .yes n r) : Suf l r := by
  obtain ⟨t, x, rfl, hu, -, -⟩ := numR_yes h
  obtain ⟨j, hj, -, -, rfl⟩ := upR_yes hu
  exact (Suf.of_drop (by omega) (crlf_some hj).1).cons
theorem bulkR_yes {l x r : List UInt8} (h : bulkR l = .yes x r) : ∃ n t, numR 36 0 65536 l = .yes n t ∧ ¬ t.length < n.toNat + 2 ∧ (t.drop n.toNat).take 2 = [13, 10] ∧ x = t.take n.toNat ∧ r = t.drop (n.toNat + 2) := by
  unfold bulkR at h
  split at h
  · rename_i n t hn
    split at h
    · cases h
    · split at h
      · rename_i h1 h2
        cases h
        exact ⟨n, t, hn, h1, h2, rfl, rfl⟩
      · cases h
  · cases h
  · cases h
theorem bulkR_suf {l x r : List UInt8} (h : bulkR l = .yes x r) : Suf l r := by
  obtain ⟨n, t, hn, h1, h2, rfl, rfl⟩ := bulkR_yes h
  exact (numR_suf hn).trans (Suf.of_drop (by omega) (by omega))
theorem manyR_suf (k : Nat) : ∀ (acc : List (List UInt8)) (l : List UInt8) (ws : List (List UInt8)) (r : List UInt8), manyR k acc l = .yes ws r → l = r ∨ Suf l r := by
  induction k with
  | zero => intro acc l ws r h; rw [manyR] at h; cases h; exact .inl rfl
  | succ k ih =>
    intro acc l ws r h
    rw [manyR] at h
    split at h
    · rename_i hb
      rcases ih _ _ _ _ h with rfl | h2
      · exact .inr (bulkR_suf hb)
      · exact .inr ((bulkR_suf hb).trans h2)
    · cases h
    · cases h
theorem bulksR_yes {l r : List UInt8} {ws : List (List UInt8)} (h : bulksR l = .yes ws r) : ∃ n t, numR 42 (-1) 256 l = .yes n t ∧ manyR n.toNat [] t = .yes ws r := by
  unfold bulksR at h
  split at h
  · rename_i n t hn
    exact ⟨n, t, hn, h⟩
  · cases h
  · cases h
theorem bulksR_suf {l r : List UInt8} {ws : List (List UInt8)} (h : bulksR l = .yes ws r) : Suf l r := by
  obtain ⟨n, t, hn, hm⟩ := bulksR_yes h
  rcases manyR_suf _ _ _ _ _ hm with rfl | h2
  · exact numR_suf hn
  · exact (numR_suf hn).trans h2
theorem inlR_yes {l r : List UInt8} {ws : List (List UInt8)} (h : inlR l = .yes ws r) : ∃ x, upR (lf l) 1 4096 l = .yes x r ∧ wordsL (cut13 x) = some ws := by
  unfold inlR at h
  split at h
  · rename_i x r2 hu
    split at h
    · rename_i hw
      cases h
      exact ⟨x, hu, hw⟩
    · cases h
  · cases h
  · cases h
theorem inlR_suf {l r : List UInt8} {ws : List (List UInt8)} (h : inlR l = .yes ws r) : Suf l r := by
  obtain ⟨x, hu, -⟩ := inlR_yes h
  obtain ⟨j, hj, -, -, rfl⟩ := upR_yes hu
  exact Suf.of_drop (by omega) (lf_some hj).1
theorem reqR_suf {l r : List UInt8} {ws : List (List UInt8)} (h : reqR l = .yes ws r) : Suf l r := by
  cases l with
  | nil => cases h
  | cons b t =>
    unfold reqR at h
    simp only at h
    split at h
    · exact bulksR_suf h
    · exact inlR_suf h
end Go.Proofs.Ytkoepgjdjbmknaa
