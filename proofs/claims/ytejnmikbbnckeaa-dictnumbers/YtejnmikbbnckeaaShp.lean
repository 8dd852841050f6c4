/-
  The parts of a directory: each has its own depth and its bits; each hash belongs to just one; what a split makes of them. Pure.
-/
import Derived.Test.YtejnmikbbnckeaaFns
namespace Go.Proofs.Ytejnmikbbnckeaa

/-- A part: its own depth, its bits. -/
abbrev Pt := Nat × Nat
/-- Does a hash belong to a part (own depth, bits)? -/
def isIn (s : Pt) (h : Nat) : Bool := decide (h % 2 ^ s.1 = s.2)
theorem isIn_iff {s : Pt} {h : Nat} : isIn s h = true ↔ h % 2 ^ s.1 = s.2 := decide_eq_true_iff
theorem isIn_no {s : Pt} {h : Nat} : isIn s h = false ↔ h % 2 ^ s.1 ≠ s.2 := decide_eq_false_iff_not
def Apart (s t : Pt) : Prop := ∀ h, isIn s h = true → isIn t h = false
theorem Apart.symm {s t : Pt} (h : Apart s t) : Apart t s := fun k hk => by
  cases e : isIn s k with
  | false => rfl
  | true => have := h k e; rw [hk] at this; cases this
theorem isIn_zero {l q h : Nat} (hq : q < 2 ^ l) : isIn (l + 1, q) h = true ↔ isIn (l, q) h = true ∧ h / 2 ^ l % 2 = 0 := by
  rw [isIn_iff, isIn_iff]
  show h % 2 ^ (l + 1) = q ↔ h % 2 ^ l = q ∧ _
  rw [mod_succ]
  have h1 : h % 2 ^ l < 2 ^ l := Nat.mod_lt _ (Nat.pow_pos (by decide))
  rcases Nat.mod_two_eq_zero_or_one (h / 2 ^ l) with e | e <;> rw [e] <;> simp <;> omega
theorem isIn_one {l q h : Nat} : isIn (l + 1, q + 2 ^ l) h = true ↔ isIn (l, q) h = true ∧ h / 2 ^ l % 2 = 1 := by
  rw [isIn_iff, isIn_iff]
  show h % 2 ^ (l + 1) = q + 2 ^ l ↔ h % 2 ^ l = q ∧ _
  rw [mod_succ]
  have h1 : h % 2 ^ l < 2 ^ l := Nat.mod_lt _ (Nat.pow_pos (by decide))
  rcases Nat.mod_two_eq_zero_or_one (h / 2 ^ l) with e | e <;> rw [e] <;> simp <;> omega
/-- The parts of a directory of depth g: each hash belongs to one. -/
structure Shp (g : Nat) (sh : List Pt) : Prop where
  lt : ∀ s ∈ sh, s.2 < 2 ^ s.1 ∧ s.1 ≤ g
  le : g ≤ 16
  deep : ∃ s ∈ sh, s.1 = g
  cov : ∀ h, ∃ s ∈ sh, isIn s h = true
  dis : sh.Pairwise Apart
theorem Shp.new : Shp 0 [(0, 0)] := by
  refine ⟨?_, by decide, ⟨_, List.mem_singleton.2 rfl, rfl⟩, fun h => ⟨_, List.mem_singleton.2 rfl, ?_⟩, by simp⟩
  · intro s hs
    cases List.mem_singleton.1 hs
    simp
  · rw [isIn_iff]; simp [Nat.mod_one]
/-- The part of a hash, and that no other is. -/
theorem Shp.parts {g : Nat} {sh : List Pt} (hS : Shp g sh) (h : Nat) : ∃ a s c, sh = a ++ s :: c ∧ isIn s h = true ∧ (∀ t ∈ a, isIn t h = false) ∧ (∀ t ∈ c, isIn t h = false) := by
  obtain ⟨s, hs, hi⟩ := hS.cov h
  obtain ⟨a, c, rfl⟩ := List.append_of_mem hs
  have hd := hS.dis
  rw [List.pairwise_append, List.pairwise_cons] at hd
  refine ⟨a, s, c, rfl, hi, fun t ht => ?_, fun t ht => hd.2.1.1 t ht h hi⟩
  exact (hd.2.2 t ht s (by simp)).symm h hi
theorem Shp.split {g : Nat} {a c : List Pt} {l q : Nat} (hS : Shp g (a ++ (l, q) :: c)) (hl : l < 16) : Shp (max g (l + 1)) (a ++ (l + 1, q) :: (c ++ [(l + 1, q + 2 ^ l)])) := by
  have hq := hS.lt (l, q) (by simp)
  have hp : 2 ^ (l + 1) = 2 * 2 ^ l := by rw [Nat.pow_succ, Nat.mul_comm]
  refine ⟨?_, ?_, ?_, ?_, ?_⟩
  · intro s hs
    simp only [List.mem_append, List.mem_cons, List.not_mem_nil, or_false] at hs
    rcases hs with hs | rfl | hs | rfl
    · have := hS.lt s (by simp [hs]); omega
    · simp only [hp]; simp only at hq; omega
    · have := hS.lt s (by simp [hs]); omega
    · simp only [hp]; simp only at hq; omega
  · have := hS.le; omega
  · by_cases e : l + 1 ≤ g
    · obtain ⟨s, hs, he⟩ := hS.deep
      simp only [List.mem_append, List.mem_cons] at hs
      rcases hs with hs | rfl | hs
      · exact ⟨s, by simp [hs], by omega⟩
      · simp only at he; omega
      · exact ⟨s, by simp [hs], by omega⟩
    · exact ⟨(l + 1, q), by simp, by simp only; omega⟩
  · intro h
    obtain ⟨s, hs, hi⟩ := hS.cov h
    simp only [List.mem_append, List.mem_cons] at hs
    rcases hs with hs | rfl | hs
    · exact ⟨s, by simp [hs], hi⟩
    · rcases Nat.mod_two_eq_zero_or_one (h / 2 ^ l) with e | e
      · exact ⟨(l + 1, q), by simp, (isIn_zero hq.1).2 ⟨hi, e⟩⟩
      · exact ⟨(l + 1, q + 2 ^ l), by simp, isIn_one.2 ⟨hi, e⟩⟩
    · exact ⟨s, by simp [hs], hi⟩
  · have hd := hS.dis
    rw [List.pairwise_append, List.pairwise_cons] at hd
    obtain ⟨h1, ⟨h2, h3⟩, h4⟩ := hd
    have z0 : ∀ t, Apart (l, q) t → Apart (l + 1, q) t := fun t ht h hh => ht h ((isIn_zero hq.1).1 hh).1
    have z1 : ∀ t, Apart (l, q) t → Apart (l + 1, q + 2 ^ l) t := fun t ht h hh => ht h (isIn_one.1 hh).1
    have z2 : Apart (l + 1, q) (l + 1, q + 2 ^ l) := by
      intro h hh
      have h0 := ((isIn_zero hq.1).1 hh).2
      cases e : isIn (l + 1, q + 2 ^ l) h with
      | false => rfl
      | true => have h1 := (isIn_one.1 e).2; rw [h0] at h1; cases h1
    rw [List.pairwise_append, List.pairwise_cons, List.pairwise_append]
    refine ⟨h1, ⟨?_, h3, by simp, ?_⟩, ?_⟩
    · intro t ht
      simp only [List.mem_append, List.mem_cons, List.not_mem_nil, or_false] at ht
      rcases ht with ht | rfl
      · exact z0 t (h2 t ht)
      · exact z2
    · intro t ht s hs
      cases List.mem_singleton.1 hs
      exact (z1 t (h2 t ht)).symm
    · intro t ht s hs
      simp only [List.mem_append, List.mem_cons, List.not_mem_nil, or_false] at hs
      rcases hs with rfl | hs | rfl
      · exact (z0 t (h4 t ht (l, q) (by simp)).symm).symm
      · exact h4 t ht s (by simp [hs])
      · exact (z1 t (h4 t ht (l, q) (by simp)).symm).symm
/-- Two that a hash belongs to are one. -/
theorem Shp.one {g : Nat} {sh : List Pt} (hS : Shp g sh) {i j : Nat} (hi : i < sh.length) (hj : j < sh.length) {h : Nat} (h1 : isIn sh[i] h = true) (h2 : isIn sh[j] h = true) : i = j := by
  rcases Nat.lt_trichotomy i j with h3 | h3 | h3
  · have := List.pairwise_iff_getElem.1 hS.dis i j hi hj h3 h h1
    rw [h2] at this; cases this
  · exact h3
  · have := List.pairwise_iff_getElem.1 hS.dis j i hj hi h3 h h2
    rw [h1] at this; cases this
/-- A hash and its lowest bits belong to the same. -/
theorem isIn_low {s : Pt} {g : Nat} (hs : s.1 ≤ g) (h : Nat) : isIn s (h % 2 ^ g) = isIn s h := by
  unfold isIn
  have : h % 2 ^ g % 2 ^ s.1 = h % 2 ^ s.1 := Nat.mod_mod_of_dvd _ (Nat.pow_dvd_pow 2 hs)
  rw [this]
theorem isIn_self {s : Pt} (hs : s.2 < 2 ^ s.1) : isIn s s.2 = true := isIn_iff.2 (Nat.mod_eq_of_lt hs)
end Go.Proofs.Ytejnmikbbnckeaa
