/-
  Rows the other way round, by swaps.
-/
import Derived.Test.YtiamgnfbgiognaaGreatDoorSp
import Derived.Test.YtiamgnfbgiognaaGreatDoorSm
namespace Go.Proofs.YtiamgnfbgiognaaGreatDoor

/-- Behind i swaps of the first with the last, the second with the last but one .. -/
structure RevI {α : Type} (L : List α) (i : Nat) (R : List α) : Prop where
  len : R.length = L.length
  at_ : ∀ j, j < L.length → R[j]? = if j < i ∨ L.length - i ≤ j then L[L.length - 1 - j]? else L[j]?
theorem RevI.start {α : Type} (L : List α) : RevI L 0 L := ⟨rfl, fun j hj => by rw [if_neg (by omega)]⟩
theorem RevI.swap {α : Type} {L R : List α} {i : Nat} {x y : α} (h : RevI L i R) (hi : i < L.length / 2) (hx : R[i]? = some x) (hy : R[L.length - 1 - i]? = some y) : RevI L (i + 1) ((R.set i y).set (L.length - 1 - i) x) := by
  have hl := h.len
  refine ⟨by simp [h.len], fun j hj => ?_⟩
  have h1 := h.at_ i (by omega)
  have h2 := h.at_ (L.length - 1 - i) (by omega)
  rw [if_neg (by omega), hx] at h1
  rw [if_neg (by omega), hy] at h2
  by_cases e1 : j = L.length - 1 - i
  · subst e1
    rw [List.getElem?_set_self (by rw [List.length_set]; omega), if_pos (by omega), h1]
    congr 1
    omega
  · rw [List.getElem?_set_ne (fun e => e1 e.symm)]
    by_cases e2 : j = i
    · subst e2
      rw [List.getElem?_set_self (by omega), if_pos (by omega), h2]
    · rw [List.getElem?_set_ne (fun e => e2 e.symm), h.at_ j hj]
      by_cases e3 : j < i ∨ L.length - i ≤ j
      · rw [if_pos e3, if_pos (by omega)]
      · rw [if_neg e3, if_neg (by omega)]
theorem RevI.done {α : Type} {L R : List α} {i : Nat} (h : RevI L i R) (hi : L.length / 2 ≤ i) (hi2 : i ≤ L.length) : R = L.reverse := by
  refine List.ext_getElem? fun j => ?_
  by_cases hj : j < L.length
  · rw [h.at_ j hj, List.getElem?_reverse hj]
    by_cases e3 : j < i ∨ L.length - i ≤ j
    · rw [if_pos e3]
    · rw [if_neg e3]
      congr 1
      omega
  · rw [List.getElem?_eq_none (by rw [h.len]; omega), List.getElem?_eq_none (by rw [List.length_reverse]; omega)]
theorem unp_set {α : Type} : ∀ (ps : List (α × α)) (od : List α) (i : Nat) (u v : α), i < ps.length → ((unp ps ++ od).set (2 * i) u).set (2 * i + 1) v = unp (ps.set i (u, v)) ++ od
  | [], _, i, _, _, h => by simp at h
  | p :: ps, od, 0, u, v, _ => rfl
  | p :: ps, od, i + 1, u, v, h => by
    have ih := unp_set ps od i u v (by simpa using h)
    have e : ∀ q : α × α, ∀ qs, unp (q :: qs) ++ od = q.1 :: q.2 :: (unp qs ++ od) := fun _ _ => rfl
    rw [List.set_cons_succ, e, e, ← ih, show 2 * (i + 1) = 2 * i + 1 + 1 by omega]
    rfl
theorem unp_get {α : Type} : ∀ (ps : List (α × α)) (od : List α) (i : Nat) (p : α × α), ps[i]? = some p → (unp ps ++ od)[2 * i]? = some p.1 ∧ (unp ps ++ od)[2 * i + 1]? = some p.2
  | [], _, i, _, h => by simp at h
  | q :: ps, od, 0, p, h => by simp at h; subst h; exact ⟨rfl, rfl⟩
  | q :: ps, od, i + 1, p, h => by
    have ih := unp_get ps od i p (by simpa using h)
    have e : unp (q :: ps) ++ od = q.1 :: q.2 :: (unp ps ++ od) := rfl
    rw [e, show 2 * (i + 1) = 2 * i + 1 + 1 by omega]
    exact ih
/-- Two pairs change places: first what stands first in them, then what stands second. -/
theorem unp_swap {α : Type} {ps : List (α × α)} {od : List α} {i j : Nat} (p q : α × α) (hi : i < ps.length) (hj : j < ps.length) :
    (((((unp ps ++ od).set (2 * i) q.1).set (2 * j) p.1).set (2 * i + 1) q.2).set (2 * j + 1) p.2) = unp ((ps.set i q).set j p) ++ od := by
  have h1 := unp_set ps od i q.1 q.2 hi
  have h2 := unp_set (ps.set i q) od j p.1 p.2 (by rw [List.length_set]; exact hj)
  rw [← h2]
  have h1' : unp (ps.set i q) ++ od = ((unp ps ++ od).set (2 * i) q.1).set (2 * i + 1) q.2 := h1.symm
  rw [h1']
  congr 1
  rw [List.set_comm _ _ (show 2 * j ≠ 2 * i + 1 by omega)]
/-- A row of one that was made in its place. -/
theorem new_row {w : World} {g : Nat} {k : Int} {s : ByteArray} {n : Int} {a : Option Addr} {m c : Nat} (h : BR w g k s n a m c) (j : Nat) (v : Value) (hv : (rcells [⟨k, s, n, a, m, c⟩])[j]? = some v) : w.cell? ((⟨g, 0, none⟩ : Addr).add j) = some v := by
  rw [add_flat, Nat.zero_add]
  match j with
  | 0 => rw [h.c0]; exact hv
  | 1 => rw [h.c1]; exact hv
  | 2 => rw [h.c2]; exact hv
  | 3 => rw [h.c3]; exact hv
  | j + 4 => simp [rcells, El.cs] at hv
end Go.Proofs.YtiamgnfbgiognaaGreatDoor
