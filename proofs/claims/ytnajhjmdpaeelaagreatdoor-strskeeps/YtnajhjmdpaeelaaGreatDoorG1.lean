/- Texts that the others stand on. -/
import Derived.Test.YtnajhjmdpaeelaaGreatDoorProg
namespace Go.Proofs.YtnajhjmdpaeelaaGreatDoor.Sq
/-- Who stands at a place. -/
def at' (Q : List Nat) (i : Nat) : Nat := Q.getD i 0
theorem at_set (Q : List Nat) (h x i : Nat) : at' (Q.set h x) i = if i = h ∧ h < Q.length then x else at' Q i := by
  unfold at'
  rw [List.getD_eq_getElem?_getD, List.getD_eq_getElem?_getD, List.getElem?_set]
  by_cases h1 : h = i
  · subst h1
    by_cases h2 : h < Q.length
    · simp [h2]
    · simp [h2]
  · rw [if_neg h1, if_neg (fun e => h1 e.1.symm)]
theorem at_ne {Q : List Nat} {h x i : Nat} (hn : i ≠ h) : at' (Q.set h x) i = at' Q i := by rw [at_set, if_neg (fun e => hn e.1)]
theorem at_eq {Q : List Nat} {h x i : Nat} (hi : i = h) (hl : h < Q.length) : at' (Q.set h x) i = x := by rw [at_set, if_pos ⟨hi, hl⟩]
theorem at_mem {Q : List Nat} {i : Nat} (h : i < Q.length) : at' Q i ∈ Q := by
  unfold at'
  rw [List.getD_eq_getElem?_getD, List.getElem?_eq_getElem h]
  exact List.getElem_mem h
theorem at_ex {Q : List Nat} {p : Nat} (h : p ∈ Q) : ∃ i, i < Q.length ∧ at' Q i = p := by
  obtain ⟨i, hi, e⟩ := List.mem_iff_getElem.1 h
  refine ⟨i, hi, ?_⟩
  unfold at'
  rw [List.getD_eq_getElem?_getD, List.getElem?_eq_getElem hi]
  exact e
theorem at_some {Q : List Nat} {i : Nat} (h : i < Q.length) : Q[i]? = some (at' Q i) := by
  unfold at'
  rw [List.getD_eq_getElem?_getD, List.getElem?_eq_getElem h]
  rfl
/-- Two places that change what they have. -/
theorem swap_perm (Q : List Nat) (h a x : Nat) (hh : h < Q.length) (ha : a < Q.length) (hne : a ≠ h) : ((Q.set h (at' Q a)).set a x).Perm (Q.set h x) := by
  rw [List.perm_iff_count]
  intro b
  have e1 : (Q.set h (at' Q a))[a]'(by rw [List.length_set]; exact ha) = at' Q a := by
    rw [List.getElem_set_ne (Ne.symm hne)]
    unfold at'
    rw [List.getD_eq_getElem?_getD, List.getElem?_eq_getElem ha]
    rfl
  rw [List.count_set (by rw [List.length_set]; exact ha), List.count_set hh, List.count_set hh, e1]
  have : (if at' Q a == b then 1 else 0) ≤ List.count b Q := by
    split
    · rename_i h1
      rw [beq_iff_eq] at h1
      have := at_mem ha
      rw [h1] at this
      exact List.count_pos_iff.2 this
    · omega
  omega
/-- All is in order but for a place that is free. -/
structure Gap (U : Nat → Int) (Q : List Nat) (h : Nat) : Prop where
  ord : ∀ i, 0 < i → i < Q.length → i ≠ h → (i - 1) / 2 ≠ h → U (at' Q ((i - 1) / 2)) ≤ U (at' Q i)
  gap : ∀ i, 0 < h → 0 < i → i < Q.length → (i - 1) / 2 = h → U (at' Q ((h - 1) / 2)) ≤ U (at' Q i)
/-- All is in order. -/
def Ord (U : Nat → Int) (Q : List Nat) : Prop := ∀ i, 0 < i → i < Q.length → U (at' Q ((i - 1) / 2)) ≤ U (at' Q i)
theorem Ord.least {U : Nat → Int} {Q : List Nat} (h : Ord U Q) : ∀ i, i < Q.length → U (at' Q 0) ≤ U (at' Q i) := by
  intro i
  induction i using Nat.strongRecOn with
  | ind i ih =>
    intro hi
    by_cases h0 : i = 0
    · subst h0; exact Int.le_refl _
    · exact Int.le_trans (ih ((i - 1) / 2) (by omega) (by omega)) (h i (by omega) hi)
theorem Ord.gapAt {U : Nat → Int} {Q : List Nat} (h : Ord U Q) (g : Nat) (hg : g < Q.length) : Gap U Q g := by
  refine ⟨fun i h0 hi _ _ => h i h0 hi, fun i hg0 h0 hi hp => ?_⟩
  have h1 := h i h0 hi
  rw [hp] at h1
  exact Int.le_trans (h g hg0 hg) h1
theorem Ord.cut {U : Nat → Int} {Q : List Nat} {x : Nat} (h : Ord U (Q ++ [x])) : Ord U Q := by
  intro i h0 hi
  have h1 := h i h0 (by rw [List.length_append]; simp; omega)
  have e : ∀ j, j < Q.length → at' (Q ++ [x]) j = at' Q j := fun j hj => by
    unfold at'
    rw [List.getD_eq_getElem?_getD, List.getD_eq_getElem?_getD, List.getElem?_append_left hj]
  rw [e _ (by omega), e _ hi] at h1
  exact h1
theorem Ord.more {U : Nat → Int} {Q : List Nat} (x : Nat) (h : Ord U Q) : Gap U (Q ++ [x]) Q.length := by
  have e : ∀ j, j < Q.length → at' (Q ++ [x]) j = at' Q j := fun j hj => by
    unfold at'
    rw [List.getD_eq_getElem?_getD, List.getD_eq_getElem?_getD, List.getElem?_append_left hj]
  refine ⟨fun i h0 hi hn hp => ?_, fun i _ _ hi hp => ?_⟩
  · rw [List.length_append] at hi
    simp at hi
    rw [e _ (by omega), e _ (by omega)]
    exact h i h0 (by omega)
  · rw [List.length_append] at hi
    simp at hi
    omega
/-- What stands ahead of the free place is moved into it. -/
theorem Gap.up {U : Nat → Int} {Q : List Nat} {h : Nat} (g : Gap U Q h) (h0 : 0 < h) (hl : h < Q.length) : Gap U (Q.set h (at' Q ((h - 1) / 2))) ((h - 1) / 2) := by
  refine ⟨fun i i0 hi hn hp => ?_, fun i a0 i0 hi hp => ?_⟩
  · rw [List.length_set] at hi
    have h1 : i ≠ h := fun e => hp (by rw [e])
    rw [at_ne h1]
    by_cases h2 : (i - 1) / 2 = h
    · rw [at_eq h2 hl]
      exact g.gap i h0 i0 hi h2
    · rw [at_ne h2]
      exact g.ord i i0 hi h1 h2
  · rw [List.length_set] at hi
    rw [at_ne (show ((h - 1) / 2 - 1) / 2 ≠ h by omega)]
    have h3 := g.ord ((h - 1) / 2) a0 (by omega) (by omega) (by omega)
    by_cases h1 : i = h
    · rw [at_eq h1 hl]; exact h3
    · rw [at_ne h1]
      have h4 := g.ord i i0 hi h1 (by omega)
      rw [hp] at h4
      exact Int.le_trans h3 h4
/-- What is behind the free place comes no sooner than what was moved into it. -/
theorem Gap.behind {U : Nat → Int} {Q : List Nat} {h x : Nat} (g : Gap U Q h) (h0 : 0 < h) (hl : h < Q.length) (hx : U x ≤ U (at' Q ((h - 1) / 2))) : ∀ i, 0 < i → i < (Q.set h (at' Q ((h - 1) / 2))).length → (i - 1) / 2 = (h - 1) / 2 → U x ≤ U (at' (Q.set h (at' Q ((h - 1) / 2))) i) := by
  intro i i0 hi hp
  rw [List.length_set] at hi
  by_cases h1 : i = h
  · rw [at_eq h1 hl]; exact hx
  · rw [at_ne h1]
    have h4 := g.ord i i0 hi h1 (by omega)
    rw [hp] at h4
    exact Int.le_trans hx h4
/-- It is laid into the free place: it comes no sooner than what is ahead. -/
theorem Gap.lay {U : Nat → Int} {Q : List Nat} {h x : Nat} (g : Gap U Q h) (hx : 0 < h → U (at' Q ((h - 1) / 2)) ≤ U x) : Gap U (Q.set h x) h ∧ (0 < h → U (at' (Q.set h x) ((h - 1) / 2)) ≤ U x) := by
  refine ⟨⟨fun i i0 hi hn hp => ?_, fun i h0 i0 hi hp => ?_⟩, fun h0 => ?_⟩
  · rw [List.length_set] at hi
    rw [at_ne hn, at_ne hp]
    exact g.ord i i0 hi hn hp
  · rw [List.length_set] at hi
    rw [at_ne (show (h - 1) / 2 ≠ h by omega), at_ne (show i ≠ h by omega)]
    exact g.gap i h0 i0 hi hp
  · rw [at_ne (show (h - 1) / 2 ≠ h by omega)]
    exact hx h0
/-- It is laid, and comes no later than what is behind. -/
theorem Gap.done {U : Nat → Int} {Q : List Nat} {h x : Nat} (g : Gap U Q h) (hl : h < Q.length) (hx : 0 < h → U (at' Q ((h - 1) / 2)) ≤ U x) (hc : ∀ i, 0 < i → i < Q.length → (i - 1) / 2 = h → U x ≤ U (at' Q i)) : Ord U (Q.set h x) := by
  intro i i0 hi
  rw [List.length_set] at hi
  by_cases h1 : i = h
  · rw [at_eq h1 hl, at_ne (show (i - 1) / 2 ≠ h by omega), h1]
    exact hx (by omega)
  · rw [at_ne h1]
    by_cases h2 : (i - 1) / 2 = h
    · rw [at_eq h2 hl]
      exact hc i i0 hi h2
    · rw [at_ne h2]
      exact g.ord i i0 hi h1 h2
/-- The sooner one of those behind is moved into the free place. -/
theorem Gap.down {U : Nat → Int} {Q : List Nat} {h c x : Nat} (g : Gap U Q h) (c0 : 0 < c) (cl : c < Q.length) (hp : (c - 1) / 2 = h) (hm : ∀ i, 0 < i → i < Q.length → (i - 1) / 2 = h → U (at' Q c) ≤ U (at' Q i)) (hx : U (at' Q c) ≤ U x) :
    Gap U (Q.set h (at' Q c)) c ∧ (0 < c → U (at' (Q.set h (at' Q c)) ((c - 1) / 2)) ≤ U x) := by
  have hl : h < Q.length := by omega
  refine ⟨⟨fun i i0 hi hn hq => ?_, fun i _ i0 hi hq => ?_⟩, fun _ => ?_⟩
  · rw [List.length_set] at hi
    by_cases h1 : i = h
    · rw [at_eq h1 hl, at_ne (show (i - 1) / 2 ≠ h by omega), h1]
      exact g.gap c (by omega) c0 cl hp
    · rw [at_ne h1]
      by_cases h2 : (i - 1) / 2 = h
      · rw [at_eq h2 hl]
        exact hm i i0 hi h2
      · rw [at_ne h2]
        exact g.ord i i0 hi h1 h2
  · rw [List.length_set] at hi
    rw [at_eq hp hl, at_ne (show i ≠ h by omega)]
    have := g.ord i i0 hi (by omega) (by omega)
    rw [hq] at this
    exact this
  · rw [at_eq hp hl]
    exact hx
/-- What is at a place is other than all that is at other places, if each knows its place. -/
def Plcs (P : Nat → Int) (Q : List Nat) : Prop := ∀ i, i < Q.length → P (at' Q i) = i
theorem Plcs.inj {P : Nat → Int} {Q : List Nat} (h : Plcs P Q) {i j : Nat} (hi : i < Q.length) (hj : j < Q.length) (e : at' Q i = at' Q j) : i = j := by
  have h1 := h i hi
  have h2 := h j hj
  rw [e, h2] at h1
  omega
theorem mem_set {Q : List Nat} {h x p : Nat} (hl : h < Q.length) (hn : p ∈ Q.set h x) : p = x ∨ ∃ i, i < Q.length ∧ i ≠ h ∧ at' Q i = p := by
  obtain ⟨i, hi, e⟩ := at_ex hn
  rw [List.length_set] at hi
  rw [at_set] at e
  by_cases h1 : i = h ∧ h < Q.length
  · rw [if_pos h1] at e; exact .inl e.symm
  · rw [if_neg h1] at e; exact .inr ⟨i, hi, fun e2 => h1 ⟨e2, hl⟩, e⟩
end Go.Proofs.YtnajhjmdpaeelaaGreatDoor.Sq
