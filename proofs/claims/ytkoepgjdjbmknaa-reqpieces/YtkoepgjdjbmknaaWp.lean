/-
  Requests of a row of bytes that comes in pieces, pure; and append at rows of rows.
-/
import Derived.Test.YtkoepgjdjbmknaaUz
import Derived.Test.YtkoepgjdjbmknaaRp
namespace Go.Proofs.Ytkoepgjdjbmknaa
open Go.RowKit Go.PlainAid

theorem allR_norm (m : Nat) : ∀ (l : List UInt8) (f : Nat) (acc : List (List (List UInt8))), l.length ≤ m → l.length < f → allR f acc l = (acc ++ (allL l).1, (allL l).2.1, (allL l).2.2) := by
  induction m with
  | zero =>
    intro l f acc hl hf
    obtain rfl : l = [] := List.eq_nil_of_length_eq_zero (by omega)
    obtain ⟨f, rfl⟩ : ∃ g, f = g + 1 := ⟨f - 1, by omega⟩
    have ho : reqR [] = .part := rfl
    have e : allL [] = allR (0 + 1) [] [] := rfl
    rw [e, allR_part ho, allR_part ho]; simp
  | succ m ih =>
    intro l f acc hl hf
    obtain ⟨f, rfl⟩ : ∃ g, f = g + 1 := ⟨f - 1, by omega⟩
    have e : allL l = allR (l.length + 1) [] l := rfl
    cases ho : reqR l using Rs.elim with
    | part => rw [e, allR_part ho, allR_part ho]; simp
    | wrong => rw [e, allR_wrong ho, allR_wrong ho]; simp
    | yes ws r =>
      have hs := (reqR_suf ho).len
      cases ws with
      | nil => rw [e, allR_nil ho, allR_nil ho, ih r f acc (by omega) (by omega), ih r l.length [] (by omega) (by omega)]; simp
      | cons x xs => rw [e, allR_cons ho, allR_cons ho, ih r f _ (by omega) (by omega), ih r l.length _ (by omega) (by omega)]; simp
theorem allL_part {l : List UInt8} (h : reqR l = .part) : allL l = ([], l, false) := allR_part h
theorem allL_wrong {l : List UInt8} (h : reqR l = .wrong) : allL l = ([], l, true) := allR_wrong h
theorem allL_yes {l r : List UInt8} {ws : List (List UInt8)} (h : reqR l = .yes ws r) : allL l = ((if ws = [] then [] else [ws]) ++ (allL r).1, (allL r).2.1, (allL r).2.2) := by
  have hs := (reqR_suf h).len
  have e : allL l = allR (l.length + 1) [] l := rfl
  cases ws with
  | nil => rw [e, allR_nil h, allR_norm r.length r _ _ (Nat.le_refl _) hs]; rfl
  | cons x xs => rw [e, allR_cons h, allR_norm r.length r _ _ (Nat.le_refl _) hs]; rfl

/-- More bytes behind: what was read stands, and the rest is read on; a wrong one stays wrong. -/
theorem allL_app (m : Nat) : ∀ (x y : List UInt8), x.length ≤ m →
    ((allL x).2.2 = false → allL (x ++ y) = ((allL x).1 ++ (allL ((allL x).2.1 ++ y)).1, (allL ((allL x).2.1 ++ y)).2.1, (allL ((allL x).2.1 ++ y)).2.2)) ∧
    ((allL x).2.2 = true → (allL (x ++ y)).1 = (allL x).1 ∧ (allL (x ++ y)).2.2 = true) ∧
    ((allL x).2.2 = false → allL (allL x).2.1 = ([], (allL x).2.1, false)) ∧
    ∃ k, k ≤ x.length ∧ (allL x).2.1 = x.drop k := by
  induction m with
  | zero =>
    intro x y hl
    obtain rfl : x = [] := List.eq_nil_of_length_eq_zero (by omega)
    have ho : reqR [] = .part := rfl
    rw [allL_part ho]
    exact ⟨fun _ => rfl, fun h => (by cases h), fun _ => allL_part ho, 0, Nat.le_refl _, rfl⟩
  | succ m ih =>
    intro x y hl
    cases ho : reqR x using Rs.elim with
    | part =>
      rw [allL_part ho]
      exact ⟨fun _ => rfl, fun h => (by cases h), fun _ => allL_part ho, 0, Nat.zero_le _, rfl⟩
    | wrong =>
      rw [allL_wrong ho, allL_wrong (reqR_bad ho y)]
      exact ⟨fun h => (by cases h), fun _ => ⟨rfl, rfl⟩, fun h => (by cases h), 0, Nat.zero_le _, rfl⟩
    | yes ws r =>
      have hs := reqR_suf ho
      have hsl := hs.len
      have hsd := hs.drop
      obtain ⟨h1, h2, h3, k, hk, h4⟩ := ih r y (by omega)
      rw [allL_yes ho, allL_yes (reqR_app ho y)]
      refine ⟨fun h => ?_, fun h => ?_, fun h => h3 h, x.length - r.length + k, by omega, ?_⟩
      · rw [h1 h]; simp
      · obtain ⟨g1, g2⟩ := h2 h
        exact ⟨by rw [g1], g2⟩
      · show (allL r).2.1 = _
        rw [h4, ← List.drop_drop, hsd]

theorem allL_count (m : Nat) : ∀ (x : List UInt8), x.length ≤ m → (allL x).1.length ≤ x.length := by
  induction m with
  | zero =>
    intro x hl
    obtain rfl : x = [] := List.eq_nil_of_length_eq_zero (by omega)
    exact Nat.le_refl _
  | succ m ih =>
    intro x hl
    cases ho : reqR x using Rs.elim with
    | part => rw [allL_part ho]; exact Nat.zero_le _
    | wrong => rw [allL_wrong ho]; exact Nat.zero_le _
    | yes ws r =>
      have hs := (reqR_suf ho).len
      have := ih r (by omega)
      rw [allL_yes ho]
      show ((if ws = [] then [] else [ws]) ++ (allL r).1).length ≤ x.length
      rw [List.length_append]
      split
      · simp; omega
      · simp; omega

/-- The row X is read to k: the requests G, the rest R, or it was wrong. -/
def Pcs (X : List UInt8) (k : Nat) (G : List (List (List UInt8))) (R : List UInt8) : Bool → Prop
  | false => allL X = (G ++ (allL (R ++ X.drop k)).1, (allL (R ++ X.drop k)).2.1, (allL (R ++ X.drop k)).2.2) ∧ allL R = ([], R, false)
  | true => (allL X).1 = G ∧ (allL X).2.2 = true
theorem Pcs.start (X : List UInt8) : Pcs X 0 [] [] false := ⟨rfl, rfl⟩
theorem Pcs.step {X R Y : List UInt8} {k k' : Nat} {G : List (List (List UInt8))} (h : Pcs X k G R false) (h1 : k ≤ k') (hY : Y = R ++ (X.drop k).take (k' - k)) : Pcs X k' (G ++ (allL Y).1) (allL Y).2.1 (allL Y).2.2 := by
  obtain ⟨h2, h3⟩ := h
  have e : R ++ X.drop k = Y ++ X.drop k' := by
    have : X.drop k' = (X.drop k).drop (k' - k) := by rw [List.drop_drop, show k + (k' - k) = k' by omega]
    rw [hY, List.append_assoc, this, List.take_append_drop]
  rw [e] at h2
  obtain ⟨g1, g2, g3, -⟩ := allL_app Y.length Y (X.drop k') (Nat.le_refl _)
  cases hb : (allL Y).2.2 with
  | false => exact ⟨by rw [h2, g1 hb]; simp, g3 hb⟩
  | true =>
    obtain ⟨g4, g5⟩ := g2 hb
    exact ⟨by rw [h2, g4], by rw [h2]; exact g5⟩
theorem Pcs.done {X R : List UInt8} {k : Nat} {G : List (List (List UInt8))} (h : Pcs X k G R false) (hk : X.length ≤ k) : (allL X).1 = G ∧ (allL X).2.2 = false := by
  obtain ⟨h2, h3⟩ := h
  rw [List.drop_eq_nil_of_le hk, List.append_nil, h3] at h2
  rw [h2]
  exact ⟨List.append_nil _, rfl⟩

/-- l = append(l, rows...). -/
theorem append_sss {w : World} {ops : Array Oper} {rest : List Oper} {o : Oper} {ac : Act} {Q : Exit → Act → World → Prop} (hgd : o.guard = none) (s x : Operand) (ho : o.op = .call { callee := .builtin .append, args := #[s, x], argTypes := #[33, 33] })
    (B : Nat) {a : Option Addr} {n c : Nat} {L : List (List ByteArray)} {T : List Tr} (hs : ac.eval s = .slice a n c) (hown : OwnSS w B a n c L T) {a' : Option Addr} {n' c' : Nat} {L' : List (List ByteArray)} {T' : List Tr} (hx : ac.eval x = .slice a' n' c') (hm : OwnSS w B a' n' c' L' T') (hb : n + n' ≤ 1000000) (hB : B ≤ w.heap.size)
    (h : ∀ a2 n2 c2 w2, n2 = n + n' → OwnSS w2 B a2 n2 c2 (L ++ L') (T ++ T') → Below B w w2 → wpList Try.prog ops Q rest (ac.put o.dst (.slice a2 n2 c2)) w2) : wpList Try.prog ops Q (o :: rest) ac w := by
  obtain ⟨i, z, hi, hz0, hz1, hz2, hz3⟩ := eltS.inf
  have hl := hown.len
  have hrows : ∀ w2, w.grownBy w2 (a.map (·.block)) → ∀ (j : Nat) (t : Tr) (ls : List ByteArray), (T ++ T')[j]? = some t → (L ++ L')[j]? = some ls → OwnS w2 B t.1 t.2.1 t.2.2 ls := by
    intro w2 hg j t ls h1 h2
    by_cases hj : j < T.length
    · rw [List.getElem?_append_left hj] at h1
      rw [List.getElem?_append_left (by omega)] at h2
      exact OwnS.past hown.own hg (hown.row j t ls h1 h2)
    · rw [List.getElem?_append_right (by omega)] at h1
      rw [List.getElem?_append_right (by omega), ← hl] at h2
      exact OwnS.past hown.own hg (hm.row _ t ls h1 h2)
  have hlen : (T ++ T').length = (L ++ L').length := by rw [List.length_append, List.length_append, hl, hm.len]
  cases a' with
  | none =>
    have hn0 : n' = 0 ∧ c' = 0 := by
      rcases hm.own.2 with ⟨h2, h3⟩ | ⟨g, c, cur, h1, h3⟩
      · cases h2; exact ⟨rfl, rfl⟩
      · cases h1
    obtain ⟨rfl, rfl⟩ := hn0
    have hT : T' = [] := by
      have := hm.own.len
      rw [List.length_map] at this
      exact List.eq_nil_of_length_eq_zero (by omega)
    subst hT
    refine wpList_append_own_none hgd s x 33 ho B 22 i 1 eltS.und hi (.slice a n c) n (T.map trV) hs hown.own hx ?_
    have hg : w.grownBy w (a.map (·.block)) := ⟨rfl, rfl, rfl, Nat.le_refl _, fun _ _ _ => rfl⟩
    exact h a n c w rfl ⟨by rw [List.append_nil]; exact hown.own, hlen, hrows w hg⟩ (Below.refl _ _)
  | some ad =>
    have hblk : (Value.slice a n c).ownBlock = a.map (·.block) := by cases a <;> rfl
    have hml : (T'.map trV).length = n' * 1 := hm.own.len
    refine wpList_append_own w hgd s x 33 ho B 22 i z 1 24 eltS.und hi hz0 hz1 hz2 hz3 (by decide) (.slice a n c) n (T.map trV) hs hown.own ad n' c' (T'.map trV) hx hml ?_ ?_ (by unfold maxLen; omega) (by omega) hB (fun v' w' h1 h2 _ => ?_)
    · intro j u hu
      have hp : 0 < n' := by
        have := (List.getElem?_eq_some_iff.1 hu).1
        omega
      obtain ⟨g, e, hc⟩ := hm.own.at hp
      cases e
      rw [add_flat, Nat.zero_add]; exact hc j u hu
    · intro u hu
      obtain ⟨t, -, rfl⟩ := List.mem_map.1 hu
      rfl
    · rw [hblk] at h2
      rw [← List.map_append] at h1
      have hbel := hown.own.below h2 hB
      rcases h1.2 with ⟨rfl, h3⟩ | ⟨g, c2, cur, rfl, h3⟩
      · exact h none 0 0 w' h3.symm ⟨by rw [h3] at h1; exact h1, hlen, hrows w' h2⟩ hbel
      · exact h _ _ _ w' rfl ⟨h1, hlen, hrows w' h2⟩ hbel
end Go.Proofs.Ytkoepgjdjbmknaa
