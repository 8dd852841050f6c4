/-
  What each row of the table is like.
-/
import Derived.Test.YtlapiaoopmhogaaDoorKn
namespace Go.Proofs.YtlapiaoopmhogaaDoor
open Go.RowKit Go.PlainAid

def ownB : Bool := refs.all fun c => match findD progs (low c.nm) with
  | some d => eqC d c
  | none => false
def goodB : Bool := refs.all fun c => decide (1 ≤ c.lo) && (decide (c.lo ≤ c.hi) && (decide (1 ≤ c.gr) && (decide (c.gr ≤ 6) && decide (c.nm.size ≤ 100))))
def adjB : List Cm → Bool
  | a :: b :: r => ltD a.nm b.nm && adjB (b :: r)
  | _ => true
theorem ownB_yes : ownB = true := by kernel_rfl
theorem goodB_yes : goodB = true := by kernel_rfl
theorem adjB_yes : adjB refs = true := by kernel_rfl
theorem own_name {c : Cm} (h : c ∈ refs) : fnd progs (low c.nm) = some c := by
  have h1 := List.all_eq_true.1 ownB_yes c h
  rw [findD_eq] at h1
  cases h2 : fnd progs (low c.nm) with
  | none => rw [h2] at h1; simp at h1
  | some d => rw [h2] at h1; rw [eqC_yes h1]
theorem good_row {c : Cm} (h : c ∈ refs) : 1 ≤ c.lo ∧ c.lo ≤ c.hi ∧ 1 ≤ c.gr ∧ c.gr ≤ 6 ∧ c.nm.size ≤ 100 := by
  have h1 := List.all_eq_true.1 goodB_yes c h
  simpa only [Bool.and_eq_true, decide_eq_true_eq] using h1
theorem adj_at : ∀ (l : List Cm) (p : Nat) (a b : Cm), adjB l = true → l[p]? = some a → l[p + 1]? = some b → ltD a.nm b.nm = true
  | x :: y :: r, 0, a, b, h, ha, hb => by
    simp at ha hb
    subst ha; subst hb
    rw [adjB, Bool.and_eq_true] at h
    exact h.1
  | x :: y :: r, p + 1, a, b, h, ha, hb => by
    rw [adjB, Bool.and_eq_true] at h
    exact adj_at (y :: r) p a b h.2 ha hb
  | [x], 0, a, b, _, _, hb => by simp at hb
  | [x], p + 1, a, b, _, ha, _ => by simp at ha
  | [], _, a, b, _, ha, _ => by simp at ha
end Go.Proofs.YtlapiaoopmhogaaDoor
