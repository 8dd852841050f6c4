/-
  Requests, pure: more bytes behind make no difference; what is made is read again.
-/
import Derived.Test.YtkoepgjdjbmknaaRt
import Derived.Test.YtkoepgjdjbmknaaRm
namespace Go.Proofs.Ytkoepgjdjbmknaa

theorem get_left {x : List UInt8} {i : Nat} {b : UInt8} (h : x[i]? = some b) (y : List UInt8) : (x ++ y)[i]? = some b := by
  have := (List.getElem?_eq_some_iff.1 h).1
  rw [List.getElem?_append_left this]; exact h
theorem crlf_app {x : List UInt8} {i : Nat} (h : crlf x = some i) (y : List UInt8) : crlf (x ++ y) = some i := by
  obtain ⟨h0, h1, h2⟩ := crlf_some h
  refine crlf_eq (get_left h1 y) (get_left h2 y) fun j hj => ?_
  rw [List.getElem?_append_left (by omega), List.getElem?_append_left (by omega)]
  exact crlf_min h j hj
theorem crlf_app_none {x y : List UInt8} {j : Nat} (h : crlf x = none) (h2 : crlf (x ++ y) = some j) : x.length ≤ j + 1 := by
  rcases Nat.lt_or_ge (j + 1) x.length with hj | hj
  · obtain ⟨-, h3, h4⟩ := crlf_some h2
    rw [List.getElem?_append_left (by omega)] at h3
    rw [List.getElem?_append_left hj] at h4
    exact absurd ⟨h3, h4⟩ (crlf_none h j)
  · exact hj
theorem lf_app {x : List UInt8} {i : Nat} (h : lf x = some i) (y : List UInt8) : lf (x ++ y) = some i := by
  obtain ⟨h0, h1⟩ := lf_some h
  refine lf_eq (get_left h1 y) fun j hj => ?_
  rw [List.getElem?_append_left (by omega)]
  exact lf_min h j hj
theorem lf_app_none {x y : List UInt8} {j : Nat} (h : lf x = none) (h2 : lf (x ++ y) = some j) : x.length ≤ j := by
  rcases Nat.lt_or_ge j x.length with hj | hj
  · obtain ⟨-, h3⟩ := lf_some h2
    rw [List.getElem?_append_left hj] at h3
    exact absurd h3 (lf_none h j)
  · exact hj
theorem upR_app {i : Option Nat} {k m : Nat} {l x r y : List UInt8} (hi : ∀ j, i = some j → j + k ≤ l.length) (h : upR i k m l = .yes x r) : upR i k m (l ++ y) = .yes x (r ++ y) := by
  obtain ⟨j, rfl, hm, rfl, rfl⟩ := upR_yes h
  have := hi j rfl
  show (if m < j then .wrong else .yes ((l ++ y).take j) ((l ++ y).drop (j + k)) : Rs (List UInt8)) = _
  rw [if_neg hm, List.take_append_of_le_length (by omega), List.drop_append_of_le_length (by omega)]

theorem parseL_long {x : List UInt8} (h : 21 < x.length) : parseL x = none := by
  cases hp : parseL x with
  | none => rfl
  | some n =>
    obtain ⟨e, h1, h2⟩ := parseL_some hp
    have := fmtL_len h1 h2
    rw [← e] at this
    omega

theorem numR_app {sign : UInt8} {lo hi n : Int} {x r : List UInt8} (h : numR sign lo hi x = .yes n r) (y : List UInt8) : numR sign lo hi (x ++ y) = .yes n (r ++ y) := by
  obtain ⟨t, p, rfl, hu, hp, hc⟩ := numR_yes h
  obtain ⟨j, hj, -, -, -⟩ := upR_yes hu
  have hu2 := upR_app (y := y) (fun j hj => (crlf_some hj).1) hu
  rw [hj] at hu2
  rw [List.cons_append, numR, if_pos rfl, crlf_app hj y, hu2]
  simp only [hp]
  rw [if_neg hc]
theorem numR_bad {sign : UInt8} {lo hi : Int} {x : List UInt8} (h : numR sign lo hi x = .wrong) (y : List UInt8) : numR sign lo hi (x ++ y) = .wrong := by
  cases x with
  | nil => cases h
  | cons b t =>
    rw [List.cons_append, numR]
    rw [numR] at h
    by_cases hb : b = sign
    · rw [if_pos hb] at h ⊢
      cases hc : crlf t with
      | some i =>
        obtain ⟨h0, -, -⟩ := crlf_some hc
        rw [hc] at h
        rw [crlf_app hc y]
        by_cases hi : 32 < i
        · rw [upR, if_pos hi]
        · have hu : upR (some i) 2 32 t = .yes (t.take i) (t.drop (i + 2)) := by rw [upR, if_neg hi]
          rw [hu] at h
          rw [upR_app (y := y) (fun j hj => by cases hj; exact h0) hu]
          simp only at h ⊢
          cases hp : parseL (t.take i) with
          | none => rfl
          | some n =>
            rw [hp] at h
            simp only at h ⊢
            split at h
            · rename_i hn; rw [if_pos hn]
            · cases h
      | none =>
        rw [hc] at h
        have hl : 32 < t.length := by
          rcases Nat.lt_or_ge 32 t.length with h1 | h1
          · exact h1
          · rw [upR, if_neg (by omega)] at h; cases h
        cases hc2 : crlf (t ++ y) with
        | none => rw [upR, if_pos (by rw [List.length_append]; omega)]
        | some j =>
          have hj := crlf_app_none hc hc2
          by_cases h32 : 32 < j
          · rw [upR, if_pos h32]
          · have hj32 : j = 32 := by omega
            subst hj32
            rw [upR, if_neg (by omega)]
            simp only
            rw [parseL_long (by rw [List.length_take, List.length_append]; omega)]
    · rw [if_neg hb]
theorem bulkR_app {x w r : List UInt8} (h : bulkR x = .yes w r) (y : List UInt8) : bulkR (x ++ y) = .yes w (r ++ y) := by
  obtain ⟨n, t, hn, h1, h2, rfl, rfl⟩ := bulkR_yes h
  rw [bulkR, numR_app hn y]
  simp only
  rw [if_neg (by rw [List.length_append]; omega), List.drop_append_of_le_length (by omega), List.take_append_of_le_length (by rw [List.length_drop]; omega), if_pos h2, List.take_append_of_le_length (by omega), List.drop_append_of_le_length (by omega)]
theorem bulkR_bad {x : List UInt8} (h : bulkR x = .wrong) (y : List UInt8) : bulkR (x ++ y) = .wrong := by
  unfold bulkR at h
  cases hn : numR 36 0 65536 x using Rs.elim with
  | part => rw [hn] at h; cases h
  | wrong => rw [bulkR, numR_bad hn y]
  | yes n t =>
    rw [hn] at h
    simp only at h
    split at h
    · cases h
    · rename_i h1
      split at h
      · cases h
      · rename_i h2
        rw [bulkR, numR_app hn y]
        simp only
        rw [if_neg (by rw [List.length_append]; omega), List.drop_append_of_le_length (by omega), List.take_append_of_le_length (by rw [List.length_drop]; omega), if_neg h2]
theorem manyR_app (k : Nat) : ∀ (acc : List (List UInt8)) (x : List UInt8) (ws : List (List UInt8)) (r y : List UInt8), manyR k acc x = .yes ws r → manyR k acc (x ++ y) = .yes ws (r ++ y) := by
  induction k with
  | zero => intro acc x ws r y h; rw [manyR] at h ⊢; cases h; rfl
  | succ k ih =>
    intro acc x ws r y h
    rw [manyR] at h ⊢
    cases hb : bulkR x using Rs.elim with
    | part => rw [hb] at h; cases h
    | wrong => rw [hb] at h; cases h
    | yes w t => rw [hb] at h; rw [bulkR_app hb y]; exact ih _ _ _ _ _ h
theorem manyR_bad (k : Nat) : ∀ (acc : List (List UInt8)) (x y : List UInt8), manyR k acc x = .wrong → manyR k acc (x ++ y) = .wrong := by
  induction k with
  | zero => intro acc x y h; rw [manyR] at h; cases h
  | succ k ih =>
    intro acc x y h
    rw [manyR] at h ⊢
    cases hb : bulkR x using Rs.elim with
    | part => rw [hb] at h; cases h
    | wrong => rw [bulkR_bad hb y]
    | yes w t => rw [hb] at h; rw [bulkR_app hb y]; exact ih _ _ _ h
theorem bulksR_app {x r : List UInt8} {ws : List (List UInt8)} (h : bulksR x = .yes ws r) (y : List UInt8) : bulksR (x ++ y) = .yes ws (r ++ y) := by
  obtain ⟨n, t, hn, hm⟩ := bulksR_yes h
  rw [bulksR, numR_app hn y]
  exact manyR_app _ _ _ _ _ _ hm
theorem bulksR_bad {x : List UInt8} (h : bulksR x = .wrong) (y : List UInt8) : bulksR (x ++ y) = .wrong := by
  unfold bulksR at h
  cases hn : numR 42 (-1) 256 x using Rs.elim with
  | part => rw [hn] at h; cases h
  | wrong => rw [bulksR, numR_bad hn y]
  | yes n t =>
    rw [hn] at h
    rw [bulksR, numR_app hn y]
    exact manyR_bad _ _ _ _ h
theorem inlR_app {x r : List UInt8} {ws : List (List UInt8)} (h : inlR x = .yes ws r) (y : List UInt8) : inlR (x ++ y) = .yes ws (r ++ y) := by
  obtain ⟨p, hu, hw⟩ := inlR_yes h
  obtain ⟨j, hj, -, -, -⟩ := upR_yes hu
  have hu2 := upR_app (y := y) (fun j hj => (lf_some hj).1) hu
  rw [hj] at hu2
  rw [inlR, lf_app hj y, hu2]
  simp only [hw]
theorem inlR_bad {x : List UInt8} (h : inlR x = .wrong) (y : List UInt8) : inlR (x ++ y) = .wrong := by
  unfold inlR at h
  cases hc : lf x with
  | some i =>
    have h0 := (lf_some hc).1
    rw [hc] at h
    rw [inlR, lf_app hc y]
    by_cases hi : 4096 < i
    · rw [upR, if_pos hi]
    · have hu : upR (some i) 1 4096 x = .yes (x.take i) (x.drop (i + 1)) := by rw [upR, if_neg hi]
      rw [hu] at h
      rw [upR_app (y := y) (fun j hj => by cases hj; exact h0) hu]
      simp only at h ⊢
      cases hw : wordsL (cut13 (x.take i)) with
      | none => rfl
      | some ws => rw [hw] at h; cases h
  | none =>
    rw [hc] at h
    have hl : 4096 < x.length := by
      rcases Nat.lt_or_ge 4096 x.length with h1 | h1
      · exact h1
      · rw [upR, if_neg (by omega)] at h; cases h
    rw [inlR]
    cases hc2 : lf (x ++ y) with
    | none => rw [upR, if_pos (by rw [List.length_append]; omega)]
    | some j =>
      have hj := lf_app_none hc hc2
      rw [upR, if_pos (by omega)]
theorem reqR_app {x r : List UInt8} {ws : List (List UInt8)} (h : reqR x = .yes ws r) (y : List UInt8) : reqR (x ++ y) = .yes ws (r ++ y) := by
  cases x with
  | nil => cases h
  | cons b t =>
    unfold reqR at h ⊢
    simp only [List.cons_append] at h ⊢
    split at h
    · rename_i hb; rw [if_pos hb]; exact bulksR_app h y
    · rename_i hb; rw [if_neg hb]; exact inlR_app h y
theorem reqR_bad {x : List UInt8} (h : reqR x = .wrong) (y : List UInt8) : reqR (x ++ y) = .wrong := by
  cases x with
  | nil => cases h
  | cons b t =>
    unfold reqR at h ⊢
    simp only [List.cons_append] at h ⊢
    split at h
    · rename_i hb; rw [if_pos hb]; exact bulksR_bad h y
    · rename_i hb; rw [if_neg hb]; exact inlR_bad h y

theorem fmtL_no13 (n : Nat) : ∀ b ∈ fmtL (n : Int), b ≠ 13 := by
  rw [fmtL, if_neg (by omega), Int.toNat_natCast]
  induction n using Nat.strongRecOn with
  | _ n ih =>
    intro b hb
    by_cases h : n < 10
    · rw [dec_low h, List.mem_singleton] at hb
      subst hb
      intro e
      have := congrArg UInt8.toNat e
      rw [digit_toNat n h] at this
      have h13 : (13 : UInt8).toNat = 13 := rfl
      omega
    · rw [dec_high h, List.mem_append, List.mem_singleton] at hb
      rcases hb with hb | hb
      · exact ih (n / 10) (by omega) b hb
      · subst hb
        intro e
        have := congrArg UInt8.toNat e
        rw [digit_toNat (n % 10) (by omega)] at this
        have h13 : (13 : UInt8).toNat = 13 := rfl
        omega
theorem crlf_line (n : Nat) (rest : List UInt8) : crlf (fmtL (n : Int) ++ ([13, 10] ++ rest)) = some (fmtL (n : Int)).length := by
  refine crlf_eq ?_ ?_ fun j hj => ?_
  · rw [List.getElem?_append_right (Nat.le_refl _), Nat.sub_self]; rfl
  · rw [List.getElem?_append_right (by omega), Nat.add_sub_cancel_left]; rfl
  · rintro ⟨h1, -⟩
    rw [List.getElem?_append_left hj] at h1
    exact fmtL_no13 n 13 (List.mem_of_getElem? h1) rfl
theorem numR_line (sign : UInt8) (lo hi : Int) (n : Nat) (rest : List UInt8) (h1 : lo ≤ n) (h2 : (n : Int) ≤ hi) (hn : n < 9223372036854775808) : numR sign lo hi (lineN sign n ++ rest) = .yes n rest := by
  have hl := fmtL_len (n := (n : Int)) (by omega) (by omega)
  have e : lineN sign n ++ rest = sign :: (fmtL (n : Int) ++ ([13, 10] ++ rest)) := by simp [lineN]
  rw [e, numR, if_pos rfl, crlf_line, upR, if_neg (by omega)]
  simp only
  rw [List.take_left, parseL_fmtL (by omega) (by omega)]
  simp only
  rw [if_neg (by omega)]
  congr 1
  rw [← List.append_assoc]
  exact List.drop_left' (by simp)
theorem bulkR_line (x rest : List UInt8) (hx : x.length ≤ 65536) : bulkR (lineN 36 x.length ++ x ++ [13, 10] ++ rest) = .yes x rest := by
  have e : lineN 36 x.length ++ x ++ [13, 10] ++ rest = lineN 36 x.length ++ (x ++ ([13, 10] ++ rest)) := by simp
  rw [e, bulkR, numR_line 36 0 65536 x.length _ (by omega) (by omega) (by omega)]
  simp only [Int.toNat_natCast]
  rw [if_neg (by simp), List.drop_left, if_pos (show List.take 2 ([13, 10] ++ rest) = [13, 10] from rfl), List.take_left]
  congr 1
  rw [← List.append_assoc]
  exact List.drop_left' (by simp)
theorem manyR_blks (ws : List (List UInt8)) (h : ∀ x ∈ ws, x.length ≤ 65536) : ∀ (acc : List (List UInt8)) (rest : List UInt8), manyR ws.length acc (blks ws ++ rest) = .yes (acc ++ ws) rest := by
  induction ws with
  | nil => intro acc rest; rw [blks, List.length_nil, manyR, List.append_nil]; rfl
  | cons x ws ih =>
    intro acc rest
    have e : blks (x :: ws) ++ rest = lineN 36 x.length ++ x ++ [13, 10] ++ (blks ws ++ rest) := by simp [blks]
    rw [e, List.length_cons, manyR, bulkR_line x _ (h x (by simp))]
    simp only
    rw [ih (fun y hy => h y (by simp [hy])), List.append_assoc]
    rfl
theorem reqR_make (ws : List (List UInt8)) (rest : List UInt8) (h : ∀ x ∈ ws, x.length ≤ 65536) (hl : ws.length ≤ 256) : reqR (makeL ws ++ rest) = .yes ws rest := by
  have e : makeL ws ++ rest = lineN 42 ws.length ++ (blks ws ++ rest) := by simp [makeL]
  have e2 : ∃ t, lineN 42 ws.length ++ (blks ws ++ rest) = 42 :: t := ⟨_, rfl⟩
  have hb : bulksR (lineN 42 ws.length ++ (blks ws ++ rest)) = .yes ws rest := by
    rw [bulksR, numR_line 42 (-1) 256 ws.length _ (by omega) (by omega) (by omega)]
    simp only [Int.toNat_natCast]
    rw [manyR_blks ws h]; rfl
  obtain ⟨t, ht⟩ := e2
  rw [e, ht]
  rw [ht] at hb
  unfold reqR
  simp only [if_true]
  exact hb
/-- Cut off, it is not whole, and not wrong. -/
theorem reqR_cut (ws : List (List UInt8)) (k : Nat) (h : ∀ x ∈ ws, x.length ≤ 65536) (hl : ws.length ≤ 256) (hk : k < (makeL ws).length) : reqR ((makeL ws).take k) = .part := by
  have hm := reqR_make ws [] h hl
  rw [List.append_nil, ← List.take_append_drop k (makeL ws)] at hm
  cases hr : reqR ((makeL ws).take k) using Rs.elim with
  | part => rfl
  | wrong => rw [reqR_bad hr] at hm; cases hm
  | yes us r =>
    rw [reqR_app hr] at hm
    have h2 : r ++ (makeL ws).drop k = [] := (Prod.mk.inj (Option.some.inj (Option.some.inj hm))).2
    have h3 := congrArg List.length h2
    rw [List.length_append, List.length_drop, List.length_nil] at h3
    omega
end Go.Proofs.Ytkoepgjdjbmknaa
