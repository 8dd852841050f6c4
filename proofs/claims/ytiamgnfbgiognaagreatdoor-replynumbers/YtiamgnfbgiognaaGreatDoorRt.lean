/-
  Replies as trees: their order, what of them counts, how they are sorted.
-/
import Derived.Lib.Bytealg
import Derived.Lib.ConvBytes
namespace Go.Proofs.YtiamgnfbgiognaaGreatDoor

/-- A reply. -/
inductive RT where
  | mk (k : Int) (s : ByteArray) (n : Int) (l : List RT)
namespace RT
def k : RT → Int | mk k _ _ _ => k
def s : RT → ByteArray | mk _ s _ _ => s
def n : RT → Int | mk _ _ n _ => n
def l : RT → List RT | mk _ _ _ l => l
end RT
def cmpI (a b : Int) : Int := if a < b then -1 else if b < a then 1 else 0
def cmpB (a b : ByteArray) : Int := Lib.compareBytes a.data.toList b.data.toList
def orI (a b : Int) : Int := if a = 0 then b else a
mutual
/-- The order of trees. -/
def cmpT : RT → RT → Int
  | .mk k s n l, .mk k' s' n' l' => orI (orI (cmpI k k') (orI (cmpI n n') (cmpB s s'))) (cmpL l l')
def cmpL : List RT → List RT → Int
  | [], [] => 0
  | [], _ :: _ => -1
  | _ :: _, [] => 1
  | a :: l, b :: r => orI (cmpT a b) (cmpL l r)
end

theorem orI_zero {a b : Int} : orI a b = 0 ↔ a = 0 ∧ b = 0 := by unfold orI; split <;> omega
theorem orI_neg {a b c d : Int} (h : a = -c) (k : b = -d) : orI a b = - orI c d := by unfold orI; split <;> split <;> omega
theorem cmpI_zero {a b : Int} : cmpI a b = 0 ↔ a = b := by unfold cmpI; split <;> (try split) <;> omega
theorem cmpI_neg (a b : Int) : cmpI a b = - cmpI b a := by unfold cmpI; split <;> split <;> (try split) <;> omega
theorem cmpI_trans {a b c : Int} (h : cmpI a b < 0) (k : cmpI b c < 0) : cmpI a c < 0 := by
  unfold cmpI at *; split at h <;> (try split at h) <;> split at k <;> (try split at k) <;> split <;> omega
theorem bytes_zero : ∀ a b : List UInt8, Lib.compareBytes a b = 0 → a = b
  | [], [], _ => rfl
  | [], _ :: _, h => by simp [Lib.compareBytes] at h
  | _ :: _, [], h => by simp [Lib.compareBytes] at h
  | a :: x, b :: y, h => by
    unfold Lib.compareBytes at h
    split at h
    · omega
    · split at h
      · omega
      · rename_i h1 h2
        rw [bytes_zero x y h, UInt8.le_antisymm (UInt8.not_lt.1 h2) (UInt8.not_lt.1 h1)]
theorem bytes_self : ∀ a : List UInt8, Lib.compareBytes a a = 0
  | [] => rfl
  | a :: x => by unfold Lib.compareBytes; rw [if_neg (UInt8.lt_irrefl a), if_neg (UInt8.lt_irrefl a)]; exact bytes_self x
theorem bytes_neg : ∀ a b : List UInt8, Lib.compareBytes a b = - Lib.compareBytes b a
  | [], [] => rfl
  | [], _ :: _ => rfl
  | _ :: _, [] => rfl
  | a :: x, b :: y => by
    unfold Lib.compareBytes
    by_cases h1 : a < b
    · rw [if_pos h1, if_neg (UInt8.not_lt.2 (UInt8.le_of_lt h1)), if_pos h1]
    · by_cases h2 : b < a
      · rw [if_neg h1, if_pos h2, if_pos h2]; rfl
      · rw [if_neg h1, if_neg h2, if_neg h2, if_neg h1]; exact bytes_neg x y
theorem bytes_trans : ∀ a b c : List UInt8, Lib.compareBytes a b < 0 → Lib.compareBytes b c < 0 → Lib.compareBytes a c < 0
  | _, [], [], _, h => by simp [Lib.compareBytes] at h
  | [], [], _, h, _ => by simp [Lib.compareBytes] at h
  | _ :: _, [], _, h, _ => by simp [Lib.compareBytes] at h
  | _, _ :: _, [], _, h => by simp [Lib.compareBytes] at h
  | [], _ :: _, _ :: _, _, _ => by simp [Lib.compareBytes]
  | a :: x, b :: y, c :: z, h, k => by
    have ih := bytes_trans x y z
    unfold Lib.compareBytes at h k ⊢
    by_cases h1 : a < b
    · by_cases k1 : b < c
      · rw [if_pos (UInt8.lt_trans h1 k1)]; decide
      · by_cases k2 : c < b
        · rw [if_neg k1, if_pos k2] at k; omega
        · obtain rfl : b = c := UInt8.le_antisymm (UInt8.not_lt.1 k2) (UInt8.not_lt.1 k1)
          rw [if_pos h1]; decide
    · by_cases h2 : b < a
      · rw [if_neg h1, if_pos h2] at h; omega
      · obtain rfl : a = b := UInt8.le_antisymm (UInt8.not_lt.1 h2) (UInt8.not_lt.1 h1)
        rw [if_neg h1, if_neg h1] at h
        by_cases k1 : a < c
        · rw [if_pos k1]; decide
        · by_cases k2 : c < a
          · rw [if_neg k1, if_pos k2] at k; omega
          · rw [if_neg k1, if_neg k2] at k ⊢; exact ih h k
theorem bytes_one : ∀ a b : List UInt8, Lib.compareBytes a b = -1 ∨ Lib.compareBytes a b = 0 ∨ Lib.compareBytes a b = 1
  | [], [] => .inr (.inl rfl)
  | [], _ :: _ => .inl rfl
  | _ :: _, [] => .inr (.inr rfl)
  | a :: x, b :: y => by
    unfold Lib.compareBytes
    split
    · exact .inl rfl
    · split
      · exact .inr (.inr rfl)
      · exact bytes_one x y
theorem bytes_ext {a b : ByteArray} (h : a.data.toList = b.data.toList) : a = b := by
  obtain ⟨⟨a⟩⟩ := a; obtain ⟨⟨b⟩⟩ := b; exact congrArg _ (congrArg _ h)
mutual
theorem cmpT_eq : ∀ a b : RT, cmpT a b = 0 → a = b
  | .mk k s n l, .mk k' s' n' l', h => by
    unfold cmpT at h
    rw [orI_zero, orI_zero, orI_zero, cmpI_zero, cmpI_zero] at h
    obtain ⟨⟨rfl, rfl, h1⟩, h2⟩ := h
    rw [cmpL_eq l l' h2, bytes_ext (bytes_zero _ _ h1)]
theorem cmpL_eq : ∀ a b : List RT, cmpL a b = 0 → a = b
  | [], [], _ => rfl
  | [], _ :: _, h => by simp [cmpL] at h
  | _ :: _, [], h => by simp [cmpL] at h
  | a :: l, b :: r, h => by
    rw [cmpL, orI_zero] at h
    rw [cmpT_eq a b h.1, cmpL_eq l r h.2]
end
mutual
theorem cmpT_neg : ∀ a b : RT, cmpT a b = - cmpT b a
  | .mk k s n l, .mk k' s' n' l' => by
    unfold cmpT
    exact orI_neg (orI_neg (cmpI_neg _ _) (orI_neg (cmpI_neg _ _) (bytes_neg _ _))) (cmpL_neg l l')
theorem cmpL_neg : ∀ a b : List RT, cmpL a b = - cmpL b a
  | [], [] => rfl
  | [], _ :: _ => rfl
  | _ :: _, [] => rfl
  | a :: l, b :: r => by
    rw [cmpL, cmpL]
    exact orI_neg (cmpT_neg a b) (cmpL_neg l r)
end
theorem cmpT_self (a : RT) : cmpT a a = 0 := by have := cmpT_neg a a; omega
theorem cmpL_self (a : List RT) : cmpL a a = 0 := by have := cmpL_neg a a; omega
theorem cmpT_zero {a b : RT} : cmpT a b = 0 ↔ a = b := ⟨cmpT_eq a b, fun h => h ▸ cmpT_self a⟩
/-- Two orders, one behind the other. -/
theorem orI_trans {x y z u v t : Int} (h1 : x < 0 → y < 0 → z < 0) (h2 : x = 0 → z = y) (h3 : y = 0 → z = x) (h4 : x = 0 → y = 0 → u < 0 → v < 0 → t < 0) (h : orI x u < 0) (k : orI y v < 0) : orI z t < 0 := by
  unfold orI at *
  by_cases e1 : x = 0
  · rw [if_pos e1] at h
    have := h2 e1
    by_cases e2 : y = 0
    · rw [if_pos e2] at k
      rw [if_pos (by omega)]; exact h4 e1 e2 h k
    · rw [if_neg e2] at k
      rw [if_neg (by omega)]; omega
  · rw [if_neg e1] at h
    by_cases e2 : y = 0
    · rw [if_pos e2] at k
      have := h3 e2
      rw [if_neg (by omega)]; omega
    · rw [if_neg e2] at k
      have := h1 h k
      rw [if_neg (by omega)]; exact this
mutual
theorem cmpT_trans : ∀ a b c : RT, cmpT a b < 0 → cmpT b c < 0 → cmpT a c < 0
  | .mk k s n l, .mk k' s' n' l', .mk k2 s2 n2 l2, h, g => by
    unfold cmpT at h g ⊢
    have hB : ∀ s s' s2 : ByteArray, cmpB s s' < 0 → cmpB s' s2 < 0 → cmpB s s2 < 0 := fun _ _ _ => bytes_trans _ _ _
    refine orI_trans ?_ ?_ ?_ ?_ h g
    · refine orI_trans (cmpI_trans) (fun e => by rw [cmpI_zero.1 e]) (fun e => by rw [cmpI_zero.1 e]) fun _ _ => ?_
      exact orI_trans (cmpI_trans) (fun e => by rw [cmpI_zero.1 e]) (fun e => by rw [cmpI_zero.1 e]) fun _ _ => hB _ _ _
    · intro e
      rw [orI_zero, orI_zero, cmpI_zero, cmpI_zero] at e
      obtain ⟨rfl, rfl, e⟩ := e
      rw [bytes_ext (bytes_zero _ _ e)]
    · intro e
      rw [orI_zero, orI_zero, cmpI_zero, cmpI_zero] at e
      obtain ⟨rfl, rfl, e⟩ := e
      rw [bytes_ext (bytes_zero _ _ e)]
    · exact fun _ _ => cmpL_trans l l' l2
theorem cmpL_trans : ∀ a b c : List RT, cmpL a b < 0 → cmpL b c < 0 → cmpL a c < 0
  | _, [], [], _, h => by simp [cmpL] at h
  | [], [], _ :: _, h, _ => by simp [cmpL] at h
  | _ :: _, [], _ :: _, h, _ => by simp [cmpL] at h
  | _, _ :: _, [], _, h => by simp [cmpL] at h
  | [], _ :: _, _ :: _, _, _ => by simp [cmpL]
  | a :: x, b :: y, c :: z, h, k => by
    rw [cmpL] at h k ⊢
    exact orI_trans (cmpT_trans a b c) (fun e => by rw [cmpT_eq _ _ e]) (fun e => by rw [cmpT_eq _ _ e]) (fun _ _ => cmpL_trans x y z) h k
end
def ltT (a b : RT) : Bool := decide (cmpT a b < 0)
/-- What sorting asks of an order. -/
structure Tot {α : Type} (lt : α → α → Bool) : Prop where
  asym : ∀ a b, lt a b = true → lt b a = false
  trans : ∀ a b c, lt b a = false → lt c b = false → lt c a = false
/-- In rising order. -/
def Std {α : Type} (lt : α → α → Bool) (l : List α) : Prop := l.Pairwise (fun a b => lt b a = false)
/-- Between two rounds: the first i are in order. -/
structure Outr {α : Type} (lt : α → α → Bool) (l0 : List α) (i : Nat) (l : List α) : Prop where
  perm : l.Perm l0
  std : Std lt (l.take i)
/-- Within a round: the i-th has come down to the place j. -/
structure Insr {α : Type} (lt : α → α → Bool) (l0 : List α) (i j : Nat) (l : List α) : Prop where
  perm : l.Perm l0
  ex : ∃ A x C R, l = A ++ x :: (C ++ R) ∧ A.length = j ∧ A.length + C.length = i ∧ Std lt (A ++ C) ∧ ∀ c ∈ C, lt x c = true
theorem Outr.start {α : Type} {lt : α → α → Bool} (l : List α) : Outr lt l 1 l := by
  refine ⟨List.Perm.refl _, ?_⟩
  cases l with
  | nil => exact List.Pairwise.nil
  | cons a r => exact List.pairwise_singleton _ _
theorem Outr.inner {α : Type} {lt : α → α → Bool} {l0 l : List α} {i : Nat} (h : Outr lt l0 i l) (hi : i < l.length) : Insr lt l0 i i l := by
  refine ⟨h.perm, l.take i, l[i], [], l.drop (i + 1), ?_, ?_, ?_, ?_, fun c hc => absurd hc (by simp)⟩
  · rw [List.nil_append, ← List.drop_eq_getElem_cons hi, List.take_append_drop]
  · rw [List.length_take]; omega
  · rw [List.length_take, List.length_nil]; omega
  · rw [List.append_nil]; exact h.std
theorem Outr.done {α : Type} {lt : α → α → Bool} {l0 l : List α} {i : Nat} (h : Outr lt l0 i l) (hi : l.length ≤ i) : l.Perm l0 ∧ Std lt l := by
  have := h.std
  rw [List.take_of_length_le hi] at this
  exact ⟨h.perm, this⟩
theorem Insr.lt {α : Type} {lt : α → α → Bool} {l0 l : List α} {i j : Nat} (h : Insr lt l0 i j l) : j ≤ i ∧ i < l.length := by
  obtain ⟨A, x, C, R, rfl, h1, h2, -, -⟩ := h.ex
  rw [List.length_append, List.length_cons, List.length_append]
  omega
theorem Insr.swap {α : Type} {lt : α → α → Bool} {l0 l : List α} {i j : Nat} (z : α) (h : Insr lt l0 i (j + 1) l) (hlt : lt (l.getD (j + 1) z) (l.getD j z) = true) :
    Insr lt l0 i j ((l.set (j + 1) (l.getD j z)).set j (l.getD (j + 1) z)) := by
  obtain ⟨hp, A, x, C, R, rfl, h1, h2, h3, h4⟩ := h
  obtain ⟨A', y, rfl⟩ : ∃ A' y, A = A' ++ [y] := by
    exact ⟨A.dropLast, A.getLast (by rintro rfl; simp at h1), (List.dropLast_concat_getLast _).symm⟩
  have hl : A'.length = j := by simp at h1; exact h1
  subst hl
  have e1 : (A' ++ [y] ++ x :: (C ++ R)).getD (A'.length + 1) z = x := by
    rw [List.getD_eq_getElem?_getD, List.getElem?_append_right (by simp)]; simp
  have e2 : (A' ++ [y] ++ x :: (C ++ R)).getD A'.length z = y := by
    rw [List.append_assoc, List.getD_eq_getElem?_getD, List.getElem?_append_right (Nat.le_refl _)]; simp
  rw [e1, e2] at hlt ⊢
  have e3 : ((A' ++ [y] ++ x :: (C ++ R)).set (A'.length + 1) y).set A'.length x = A' ++ x :: ((y :: C) ++ R) := by
    rw [List.append_assoc, List.set_append_right _ _ (by omega), List.set_append_right _ _ (by omega)]
    simp
  rw [e3]
  refine ⟨?_, A', x, y :: C, R, rfl, rfl, ?_, ?_, ?_⟩
  · refine List.Perm.trans ?_ hp
    rw [List.append_assoc]
    exact (List.Perm.swap y x (C ++ R)).append_left A'
  · simp only [List.length_append, List.length_cons, List.length_nil] at h2 ⊢
    omega
  · rw [List.append_assoc] at h3; exact h3
  · intro c hc
    rcases List.mem_cons.1 hc with rfl | hc
    · exact hlt
    · exact h4 c hc
theorem Insr.stop {α : Type} {lt : α → α → Bool} (ht : Tot lt) {l0 l : List α} {i j : Nat} (z : α) (h : Insr lt l0 i j l) (hs : j = 0 ∨ lt (l.getD j z) (l.getD (j - 1) z) = false) : Outr lt l0 (i + 1) l := by
  obtain ⟨hp, A, x, C, R, rfl, h1, h2, h3, h4⟩ := h
  refine ⟨hp, ?_⟩
  have e : (A ++ x :: (C ++ R)).take (i + 1) = A ++ x :: C := by
    rw [show A ++ x :: (C ++ R) = (A ++ x :: C) ++ R by simp]
    rw [List.take_append_of_le_length (by simp; omega), List.take_of_length_le (by simp; omega)]
  rw [e]
  have hA := List.pairwise_append.1 h3
  refine List.pairwise_append.2 ⟨hA.1, List.pairwise_cons.2 ⟨fun c hc => ht.asym _ _ (h4 c hc), hA.2.1⟩, ?_⟩
  intro a ha b hb
  rcases List.mem_cons.1 hb with rfl | hb
  · rcases hs with hs | hs
    · rw [hs] at h1; rw [List.length_eq_zero_iff.1 h1] at ha; exact absurd ha (by simp)
    · obtain ⟨A', y, rfl⟩ : ∃ A' y, A = A' ++ [y] := by
        exact ⟨A.dropLast, A.getLast (by rintro rfl; simp at ha), (List.dropLast_concat_getLast _).symm⟩
      have hl : A'.length + 1 = j := by simpa using h1
      subst hl
      have e1 : (A' ++ [y] ++ b :: (C ++ R)).getD (A'.length + 1) z = b := by
        rw [List.getD_eq_getElem?_getD, List.getElem?_append_right (by simp)]; simp
      have e2 : (A' ++ [y] ++ b :: (C ++ R)).getD A'.length z = y := by
        rw [List.append_assoc, List.getD_eq_getElem?_getD, List.getElem?_append_right (Nat.le_refl _)]; simp
      rw [Nat.add_sub_cancel, e1, e2] at hs
      rcases List.mem_append.1 ha with ha | ha
      · exact ht.trans a y b ((List.pairwise_append.1 hA.1).2.2 a ha y (by simp)) hs
      · rw [List.mem_singleton.1 ha]; exact hs
  · exact hA.2.2 a ha b hb
theorem std_one {α : Type} {lt : α → α → Bool} {l r : List α} (hl : Std lt l) (hr : Std lt r) (hp : l.Perm r) (ha : ∀ a b, a ∈ l → b ∈ r → lt b a = false → lt a b = false → a = b) : l = r :=
  List.Perm.eq_of_pairwise ha hl hr hp
theorem ltT_eq {a b : RT} (h : ltT b a = false) (k : ltT a b = false) : a = b := by
  unfold ltT at h k
  have := cmpT_neg a b
  exact cmpT_eq a b (by simp at h k; omega)
theorem tot_T : Tot ltT := by
  refine ⟨fun a b h => ?_, fun a b c h k => ?_⟩
  · unfold ltT at h ⊢
    have := cmpT_neg a b
    simp at h ⊢; omega
  · unfold ltT at h k ⊢
    simp only [decide_eq_false_iff_not, Int.not_lt] at h k ⊢
    have h1 := cmpT_neg a b
    have h2 := cmpT_neg b c
    have h3 := cmpT_neg a c
    by_cases e1 : cmpT a b = 0
    · rw [cmpT_eq _ _ e1]; exact k
    · by_cases e2 : cmpT b c = 0
      · rw [← cmpT_eq _ _ e2]; exact h
      · have := cmpT_trans a b c (by omega) (by omega)
        omega
/-- A row in rising order. -/
def sortT (l : List RT) : List RT := l.mergeSort (fun a b => !ltT b a)
theorem sortT_perm (l : List RT) : (sortT l).Perm l := List.mergeSort_perm _ _
theorem sortT_std (l : List RT) : Std ltT (sortT l) := by
  have h := List.pairwise_mergeSort (le := fun a b : RT => !ltT b a) (fun a b c h k => by
    simp only [Bool.not_eq_true'] at h k ⊢; exact tot_T.trans a b c h k) (fun a b => by
    cases hb : ltT b a
    · simp
    · rw [tot_T.asym b a hb]; rfl) l
  exact h.imp (fun h => by simpa using h)
theorem sortT_of {l r : List RT} (hp : r.Perm l) (hs : Std ltT r) : r = sortT l :=
  std_one hs (sortT_std l) (hp.trans (sortT_perm l).symm) (fun _ _ _ _ h k => ltT_eq h k)
/-- A pair as one. -/
def pr (p : RT × RT) : RT := .mk 7 ⟨#[]⟩ 0 [p.1, p.2]
theorem pr_inj {p q : RT × RT} (h : pr p = pr q) : p = q := by
  unfold pr at h
  injection h with _ _ _ h
  injection h with h1 h
  injection h with h2
  exact Prod.ext h1 h2
theorem cmp_pr (p q : RT × RT) : cmpT (pr p) (pr q) = orI (cmpT p.1 q.1) (cmpT p.2 q.2) := by
  simp only [pr, cmpT, cmpL, cmpI, cmpB, bytes_self]
  unfold orI; simp
  split <;> simp_all
def ltP (a b : RT × RT) : Bool := ltT (pr a) (pr b)
theorem tot_P : Tot ltP := ⟨fun _ _ => tot_T.asym _ _, fun _ _ _ => tot_T.trans _ _ _⟩
def prs {α : Type} : List α → List (α × α)
  | a :: b :: r => (a, b) :: prs r
  | _ => []
/-- The last one without a partner. -/
def odd {α : Type} : List α → List α
  | _ :: _ :: r => odd r
  | l => l
def unp {α : Type} (l : List (α × α)) : List α := l.flatMap fun p => [p.1, p.2]
theorem unp_prs {α : Type} : ∀ l : List α, unp (prs l) ++ odd l = l
  | [] => rfl
  | [_] => rfl
  | a :: b :: r => by rw [prs, odd, unp, List.flatMap_cons, List.append_assoc]; exact congrArg (fun x => a :: b :: x) (unp_prs r)
def sortP (l : List (RT × RT)) : List (RT × RT) := l.mergeSort (fun a b => !ltP b a)
theorem sortP_perm (l : List (RT × RT)) : (sortP l).Perm l := List.mergeSort_perm _ _
theorem sortP_std (l : List (RT × RT)) : Std ltP (sortP l) := by
  have h := List.pairwise_mergeSort (le := fun a b : RT × RT => !ltP b a) (fun a b c h k => by
    simp only [Bool.not_eq_true'] at h k ⊢; exact tot_P.trans a b c h k) (fun a b => by
    cases hb : ltP b a
    · simp
    · rw [tot_P.asym b a hb]; rfl) l
  exact h.imp (fun h => by simpa using h)
theorem sortP_of {l r : List (RT × RT)} (hp : r.Perm l) (hs : Std ltP r) : r = sortP l :=
  std_one hs (sortP_std l) (hp.trans (sortP_perm l).symm) (fun _ _ _ _ h k => pr_inj (ltT_eq h k))
/-- What counts of a Kind: a text, a number, parts. -/
def hasS (k : Int) : Bool := decide (k = 1 ∨ k = 2 ∨ k = 4)
def hasN (k : Int) : Bool := decide (k = 3)
def hasL (k : Int) : Bool := decide (k = 7 ∨ k = 8 ∨ k = 9)
/-- A node with what counts alone. -/
def mean (k : Int) (s : ByteArray) (n : Int) (l : List RT) : RT := .mk k (if hasS k then s else ⟨#[]⟩) (if hasN k then n else 0) (if hasL k then l else [])
mutual
/-- What counts, all through. -/
def can : RT → RT
  | .mk k s n l => mean k s n (canL l)
def canL : List RT → List RT
  | [] => []
  | a :: l => can a :: canL l
end
theorem canL_eq : ∀ l, canL l = l.map can
  | [] => rfl
  | a :: l => by rw [canL, canL_eq l]; rfl
/-- The parts, ordered as the Kind asks. -/
def ordd (k : Int) (l : List RT) : List RT := if k = 9 then sortT l else if k = 8 then unp (sortP (prs l)) ++ odd l else l
mutual
def srt : RT → RT
  | .mk k s n l => mean k s n (ordd k (srtL l))
def srtL : List RT → List RT
  | [] => []
  | a :: l => srt a :: srtL l
end
theorem srtL_eq : ∀ l, srtL l = l.map srt
  | [] => rfl
  | a :: l => by rw [srtL, srtL_eq l]; rfl
theorem can_mk (k : Int) (s : ByteArray) (n : Int) (l : List RT) : can (.mk k s n l) = mean k s n (l.map can) := by rw [can, canL_eq]
theorem srt_mk (k : Int) (s : ByteArray) (n : Int) (l : List RT) : srt (.mk k s n l) = mean k s n (ordd k (l.map srt)) := by rw [srt, srtL_eq]
/-- By the trees within. -/
theorem RT.ind {P : RT → Prop} (h : ∀ k s n l, (∀ t ∈ l, P t) → P (.mk k s n l)) : ∀ t, P t
  | .mk k s n l => h k s n l fun t _ => RT.ind h t
theorem sortT_map {f : RT → RT} {l : List RT} (h : ∀ t ∈ l, f t = t) : (sortT l).map f = sortT l := by
  conv => rhs; rw [← List.map_id (sortT l)]
  exact List.map_congr_left fun t ht => h t ((sortT_perm l).mem_iff.1 ht)
theorem mem_prs : ∀ (l : List RT) p, p ∈ prs l → p.1 ∈ l ∧ p.2 ∈ l
  | [], p, h => by simp [prs] at h
  | [_], p, h => by simp [prs] at h
  | a :: b :: r, p, h => by
    rw [prs] at h
    rcases List.mem_cons.1 h with rfl | h
    · simp
    · have := mem_prs r p h
      exact ⟨List.mem_cons_of_mem _ (List.mem_cons_of_mem _ this.1), List.mem_cons_of_mem _ (List.mem_cons_of_mem _ this.2)⟩
theorem mem_odd : ∀ (l : List RT) t, t ∈ odd l → t ∈ l
  | [], _, h => h
  | [_], _, h => h
  | _ :: _ :: r, t, h => List.mem_cons_of_mem _ (List.mem_cons_of_mem _ (mem_odd r t h))
theorem mem_unp {l : List (RT × RT)} {t : RT} : t ∈ unp l ↔ ∃ p ∈ l, t = p.1 ∨ t = p.2 := by
  unfold unp
  simp
theorem mem_ordd {k : Int} {l : List RT} {t : RT} (h : t ∈ ordd k l) : t ∈ l := by
  unfold ordd at h
  split at h
  · exact (sortT_perm l).mem_iff.1 h
  · split at h
    · rcases List.mem_append.1 h with h | h
      · obtain ⟨p, hp, h⟩ := mem_unp.1 h
        have := mem_prs l p ((sortP_perm _).mem_iff.1 hp)
        rcases h with rfl | rfl
        · exact this.1
        · exact this.2
      · exact mem_odd l t h
    · exact h
theorem map_fix {f : RT → RT} {l : List RT} (h : ∀ t ∈ l, f t = t) : l.map f = l := by
  conv => rhs; rw [← List.map_id l]
  exact List.map_congr_left h
theorem mean_idem (k : Int) (s : ByteArray) (n : Int) (l l' : List RT) (h : hasL k = true → l' = if hasL k then l else []) : mean k (if hasS k then s else ⟨#[]⟩) (if hasN k then n else 0) l' = mean k s n l := by
  unfold mean
  congr 1
  · split <;> simp_all
  · split <;> simp_all
  · split
    · rename_i hl
      rw [h hl, if_pos hl]
    · rfl
theorem can_srt (t : RT) : can (srt t) = srt t := by
  induction t using RT.ind with
  | h k s n l ih =>
    rw [srt_mk]
    conv => lhs; rw [mean, can_mk]
    refine mean_idem k s n _ _ fun hl => ?_
    rw [if_pos hl, map_fix]
    intro t ht
    obtain ⟨t', h1, rfl⟩ := List.mem_map.1 (mem_ordd ht)
    exact ih t' h1
theorem prs_unp : ∀ (l : List (RT × RT)) (r : List RT), prs (unp l ++ r) = l ++ prs r ∧ odd (unp l ++ r) = odd r
  | [], r => ⟨rfl, rfl⟩
  | p :: l, r => by
    have := prs_unp l r
    have e : unp (p :: l) ++ r = p.1 :: p.2 :: (unp l ++ r) := rfl
    rw [e, prs, odd, this.1, this.2]
    exact ⟨rfl, rfl⟩
theorem prs_odd : ∀ l : List RT, prs (odd l) = [] ∧ odd (odd l) = odd l
  | [] => ⟨rfl, rfl⟩
  | [_] => ⟨rfl, rfl⟩
  | _ :: _ :: r => prs_odd r
theorem ordd_idem (k : Int) (l : List RT) : ordd k (ordd k l) = ordd k l := by
  unfold ordd
  split
  · exact (sortT_of (List.Perm.refl _) (sortT_std l)).symm
  · split
    · rw [(prs_unp _ _).1, (prs_unp _ _).2, (prs_odd l).1, (prs_odd l).2, List.append_nil, ← sortP_of (List.Perm.refl _) (sortP_std (prs l))]
    · rfl
theorem srt_srt (t : RT) : srt (srt t) = srt t := by
  induction t using RT.ind with
  | h k s n l ih =>
    rw [srt_mk]
    conv => lhs; rw [mean, srt_mk]
    refine mean_idem k s n _ _ fun hl => ?_
    rw [if_pos hl, map_fix, ordd_idem]
    intro t ht
    obtain ⟨t', h1, rfl⟩ := List.mem_map.1 (mem_ordd ht)
    exact ih t' h1
/-- Sets and maps the other way round. -/
def revd (k : Int) (l : List RT) : List RT := if k = 9 then l.reverse else if k = 8 then unp (prs l).reverse ++ odd l else l
mutual
def trn : RT → RT
  | .mk k s n l => .mk k s n (revd k (trnL l))
def trnL : List RT → List RT
  | [] => []
  | a :: l => trn a :: trnL l
end
theorem trnL_eq : ∀ l, trnL l = l.map trn
  | [] => rfl
  | a :: l => by rw [trnL, trnL_eq l]; rfl
theorem prs_map (f : RT → RT) : ∀ l, prs (l.map f) = (prs l).map (fun p => (f p.1, f p.2)) ∧ odd (l.map f) = (odd l).map f
  | [] => ⟨rfl, rfl⟩
  | [_] => ⟨rfl, rfl⟩
  | a :: b :: r => by
    have := prs_map f r
    simp only [List.map_cons] at this ⊢
    rw [prs, prs, odd, odd, this.1, this.2]
    exact ⟨rfl, rfl⟩
theorem unp_map (f : RT → RT) (l : List (RT × RT)) : (unp l).map f = unp (l.map fun p => (f p.1, f p.2)) := by
  unfold unp
  induction l with
  | nil => rfl
  | cons p l ih => rw [List.flatMap_cons, List.map_append, ih]; rfl
theorem revd_map (f : RT → RT) (k : Int) (l : List RT) : (revd k l).map f = revd k (l.map f) := by
  unfold revd
  split
  · rw [List.map_reverse]
  · split
    · rw [List.map_append, unp_map, (prs_map f l).1, (prs_map f l).2, List.map_reverse]
    · rfl
theorem ordd_revd (k : Int) (l : List RT) : ordd k (revd k l) = ordd k l := by
  unfold ordd revd
  split
  · exact sortT_of ((sortT_perm _).trans (List.reverse_perm l)) (sortT_std _)
  · split
    · rw [(prs_unp _ _).1, (prs_unp _ _).2, (prs_odd l).1, (prs_odd l).2, List.append_nil]
      rw [sortP_of ((sortP_perm _).trans (List.reverse_perm (prs l))) (sortP_std _)]
    · rfl
theorem srt_trn (t : RT) : srt (trn t) = srt t := by
  induction t using RT.ind with
  | h k s n l ih =>
    rw [trn, trnL_eq, srt_mk, srt_mk, revd_map, ordd_revd, List.map_map]
    congr 2
    exact List.map_congr_left fun t ht => ih t ht
theorem unp_len {α : Type} (l : List (α × α)) : (unp l).length = 2 * l.length := by
  unfold unp
  induction l with
  | nil => rfl
  | cons p l ih => rw [List.flatMap_cons, List.length_append, ih]; simp; omega
theorem ordd_len (k : Int) (l : List RT) : (ordd k l).length = l.length := by
  unfold ordd
  split
  · exact (sortT_perm l).length_eq
  · split
    · have h1 := congrArg List.length (unp_prs l)
      rw [List.length_append, unp_len] at h1 ⊢
      rw [(sortP_perm _).length_eq]; exact h1
    · rfl
theorem prs_len {α : Type} : ∀ l : List α, (prs l).length = l.length / 2
  | [] => by simp [prs]
  | [_] => by simp [prs]
  | _ :: _ :: r => by rw [prs, List.length_cons, prs_len r]; simp only [List.length_cons]; omega
theorem prs_get {α : Type} : ∀ (l : List α) (i : Nat) (x y : α), l[2 * i]? = some x → l[2 * i + 1]? = some y → (prs l)[i]? = some (x, y)
  | [], i, _, _, h, _ => by simp at h
  | [_], i, _, _, _, h => by simp at h
  | a :: b :: r, 0, x, y, h, h' => by simp at h h'; subst h h'; rfl
  | a :: b :: r, i + 1, x, y, h, h' => by
    have e : 2 * (i + 1) = 2 * i + 1 + 1 := by omega
    rw [e] at h h'
    rw [prs, List.getElem?_cons_succ]
    exact prs_get r i x y (by simpa using h) (by simpa using h')
theorem prs_at {α : Type} : ∀ (l : List α) (i : Nat) (p : α × α), (prs l)[i]? = some p → l[2 * i]? = some p.1 ∧ l[2 * i + 1]? = some p.2
  | [], i, _, h => by simp [prs] at h
  | [_], i, _, h => by simp [prs] at h
  | a :: b :: r, 0, p, h => by simp [prs] at h; subst h; exact ⟨rfl, rfl⟩
  | a :: b :: r, i + 1, p, h => by
    have e : 2 * (i + 1) = 2 * i + 1 + 1 := by omega
    rw [prs, List.getElem?_cons_succ] at h
    have := prs_at r i p h
    rw [e]
    exact ⟨by simpa using this.1, by simpa using this.2⟩
theorem odd_drop {α : Type} : ∀ l : List α, odd l = l.drop (2 * (l.length / 2))
  | [] => by simp [odd]
  | [_] => by simp [odd]
  | a :: b :: r => by
    rw [odd, odd_drop r]
    have e : 2 * ((a :: b :: r).length / 2) = 2 * (r.length / 2) + 1 + 1 := by simp only [List.length_cons]; omega
    rw [e]; rfl
theorem unp_take {α : Type} (l : List (α × α)) (i : Nat) (p : α × α) (h : l[i]? = some p) : unp (l.take (i + 1)) = unp (l.take i) ++ [p.1, p.2] := by
  rw [List.take_add_one, h]
  unfold unp
  rw [List.flatMap_append]; rfl
theorem drop_two {α : Type} {l : List α} {i : Nat} {x y : α} (h : l[i]? = some x) (h' : l[i + 1]? = some y) : l.drop i = x :: y :: l.drop (i + 2) := by
  obtain ⟨h1, rfl⟩ := List.getElem?_eq_some_iff.1 h
  obtain ⟨h2, rfl⟩ := List.getElem?_eq_some_iff.1 h'
  rw [List.drop_eq_getElem_cons h1, List.drop_eq_getElem_cons h2]
/-- Two in place, behind what is done. -/
theorem set_two {α : Type} {A : List α} {l : List α} {i : Nat} {x y : α} (hA : A.length = i) (h : l[i]? = some x) (h' : l[i + 1]? = some y) (u v : α) : ((A ++ l.drop i).set i u).set (i + 1) v = (A ++ [u, v]) ++ l.drop (i + 2) := by
  rw [drop_two h h', List.set_append_right _ _ (by omega), List.set_append_right _ _ (by omega), hA, Nat.sub_self, Nat.add_sub_cancel_left, List.append_assoc]
  rfl
theorem set_one {α : Type} {A : List α} {m i : Nat} (z u : α) (hA : A.length = i) (hi : i < m) : (A ++ List.replicate (m - i) z).set i u = (A ++ [u]) ++ List.replicate (m - (i + 1)) z := by
  rw [List.set_append_right _ _ (by omega), hA, Nat.sub_self, show m - i = (m - (i + 1)) + 1 by omega, List.replicate_succ, List.append_assoc]
  rfl
end Go.Proofs.YtiamgnfbgiognaaGreatDoor
