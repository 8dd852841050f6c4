/-
  Insert, Nodes of a list.
-/
import Derived.Test.YtemiajjjhhofaacQset
namespace Go.Proofs.Ytemiajjjhhofaac
open Go.RowKit Go.PlainAid

theorem fnd_hit (ls : List ByteArray) (s : ByteArray) (j : Nat) (hj : j < ls.length) (hs : txt ls j = s) : ∀ (f i : Nat), ls.length ≤ i + f → i ≤ j → (∀ k, i ≤ k → k < j → txt ls k ≠ s) → fnd ls s 1 f i = (j : Int)
  | 0, i, h, hi, _ => by omega
  | f + 1, i, h, hi, hk => by
    rw [fnd, if_pos (by omega)]
    by_cases e : i = j
    · subst e
      rw [if_pos hs]
    · rw [if_neg (hk i (Nat.le_refl _) (by omega))]
      exact fnd_hit ls s j hj hs f (i + 1) (by omega) (by omega) (fun k h1 h2 => hk k (by omega) h2)
theorem fnd_miss (ls : List ByteArray) (s : ByteArray) (h : ∀ k, k < ls.length → txt ls k ≠ s) : ∀ (f i : Nat), fnd ls s 1 f i = -1
  | 0, _ => rfl
  | f + 1, i => by
    rw [fnd]
    split
    · rename_i hi
      rw [if_neg (h i hi)]
      exact fnd_miss ls s h f (i + 1)
    · rfl
theorem txt_mem {ls : List ByteArray} {k : Nat} (h : k < ls.length) : txt ls k ∈ ls := by
  rw [txt, List.getD_eq_getElem?_getD, List.getElem?_eq_getElem h]
  exact List.getElem_mem h
theorem fnd_at (A Y : List ByteArray) (s : ByteArray) (h : ∀ t ∈ A, t ≠ s) : fnd (A ++ s :: Y) s 1 (A ++ s :: Y).length 0 = (A.length : Int) := by
  refine fnd_hit _ s A.length (by simp) ?_ _ 0 (by omega) (by omega) ?_
  · rw [txt, List.getD_eq_getElem?_getD, List.getElem?_append_right (Nat.le_refl _), Nat.sub_self]; rfl
  · intro k _ hk
    rw [txt, List.getD_eq_getElem?_getD, List.getElem?_append_left hk, List.getElem?_eq_getElem hk]
    exact h _ (List.getElem_mem hk)
theorem fnd_not (ls : List ByteArray) (s : ByteArray) (h : ∀ t ∈ ls, t ≠ s) : fnd ls s 1 ls.length 0 = -1 := fnd_miss ls s (fun _ hk => h _ (txt_mem hk)) _ _
/-- Where the first pivot lies, node by node. -/
theorem piv_split {A C X Z : List ByteArray} {p : ByteArray} (h : X ++ Z = A ++ p :: C) (hA : ∀ t ∈ A, t ≠ p) : (∃ A', A = X ++ A' ∧ Z = A' ++ p :: C ∧ ∀ t ∈ X, t ≠ p) ∨ (∃ Y, X = A ++ p :: Y ∧ C = Y ++ Z) := by
  rcases List.append_eq_append_iff.1 h with ⟨A', e1, e2⟩ | ⟨Y, e1, e2⟩
  · exact .inl ⟨A', e1, e2, fun t ht => hA t (by rw [e1]; simp [ht])⟩
  · cases Y with
    | nil =>
      rw [List.append_nil] at e1
      exact .inl ⟨[], by rw [e1]; simp, by simpa using e2.symm, fun t ht => hA t (by rw [← e1]; exact ht)⟩
    | cons y Y =>
      injection e2 with e3 e4
      exact .inr ⟨Y, by rw [e1, e3], e4⟩

end Go.Proofs.Ytemiajjjhhofaac
