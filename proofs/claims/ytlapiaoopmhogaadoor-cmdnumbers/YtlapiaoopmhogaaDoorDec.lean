/-
  Decimal texts: rows of digits that are read and written; what is written is read, and nothing else is, but with zeros ahead.
-/
namespace Go.Proofs.YtlapiaoopmhogaaDoor

/-- A row of digits, read onto n; none: a byte that is no digit, or a number of more than 64 bits. -/
def rd : Nat → List UInt8 → Option Nat
  | n, [] => some n
  | n, b :: r => if 48 ≤ b.toNat ∧ b.toNat ≤ 57 ∧ n * 10 + (b.toNat - 48) < 18446744073709551616 then rd (n * 10 + (b.toNat - 48)) r else none

/-- The decimal text of n, by fuel. -/
def decF : Nat → Nat → List UInt8
  | 0, n => [UInt8.ofNat (48 + n)]
  | f + 1, n => if n < 10 then [UInt8.ofNat (48 + n)] else decF f (n / 10) ++ [UInt8.ofNat (48 + n % 10)]
theorem decF_eq (f : Nat) : ∀ (g n : Nat), n < f → n < g → decF f n = decF g n := by
  induction f with
  | zero => intro g n h; omega
  | succ f ih =>
    intro g n h1 h2
    obtain ⟨g, rfl⟩ : ∃ k, g = k + 1 := ⟨g - 1, by omega⟩
    rw [decF, decF]
    by_cases h : n < 10
    · rw [if_pos h, if_pos h]
    · rw [if_neg h, if_neg h, ih g (n / 10) (by omega) (by omega)]
/-- The decimal text of n. -/
def dec (n : Nat) : List UInt8 := decF (n + 1) n

theorem dec_low {n : Nat} (h : n < 10) : dec n = [UInt8.ofNat (48 + n)] := by rw [dec, decF, if_pos h]
theorem dec_high {n : Nat} (h : ¬ n < 10) : dec n = dec (n / 10) ++ [UInt8.ofNat (48 + n % 10)] := by
  rw [dec, decF, if_neg h, dec, decF_eq n (n / 10 + 1) (n / 10) (by omega) (by omega)]

theorem head_append {l r : List UInt8} (h : l ≠ []) : (l ++ r).head? = l.head? := by
  cases l with
  | nil => exact absurd rfl h
  | cons b l => rfl

theorem dec_ne (n : Nat) : dec n ≠ [] := by
  by_cases h : n < 10
  · rw [dec_low h]; simp
  · rw [dec_high h]; simp

theorem dec_len (k : Nat) : ∀ n, n < 10 ^ (k + 1) → (dec n).length ≤ k + 1 := by
  induction k with
  | zero => intro n h; rw [dec_low (by simpa using h)]; simp
  | succ k ih =>
    intro n h
    by_cases h1 : n < 10
    · rw [dec_low h1]; simp
    · rw [dec_high h1]
      have : n / 10 < 10 ^ (k + 1) := by rw [Nat.div_lt_iff_lt_mul (by omega)]; rw [Nat.pow_succ] at h; exact h
      have := ih _ this
      simp; omega

theorem dec_len20 {n : Nat} (h : n < 18446744073709551616) : (dec n).length ≤ 20 := dec_len 19 n (by omega)

theorem digit_toNat (d : Nat) (h : d < 10) : (UInt8.ofNat (48 + d)).toNat = 48 + d := by
  rw [UInt8.toNat_ofNat']; omega

theorem rd_append (l r : List UInt8) : ∀ n, rd n (l ++ r) = (rd n l).bind fun m => rd m r := by
  induction l with
  | nil => intro n; rfl
  | cons b l ih =>
    intro n
    simp only [List.cons_append, rd]
    split
    · exact ih _
    · rfl

theorem rd_digit (n d : Nat) (h : d < 10) (hn : n * 10 + d < 18446744073709551616) : rd n [UInt8.ofNat (48 + d)] = some (n * 10 + d) := by
  simp only [rd, digit_toNat d h]
  rw [if_pos (by omega)]
  congr 1; omega

theorem rd_dec (n : Nat) : n < 18446744073709551616 → rd 0 (dec n) = some n := by
  induction n using Nat.strongRecOn with
  | _ n ih =>
    intro h
    by_cases h1 : n < 10
    · rw [dec_low h1, rd_digit 0 n h1 (by omega)]; simp
    · rw [dec_high h1, rd_append, ih (n / 10) (by omega) (by omega)]
      show rd (n / 10) _ = _
      rw [rd_digit _ _ (by omega) (by omega)]
      congr 1; omega

theorem rd_lt (l : List UInt8) : ∀ n m, n < 18446744073709551616 → rd n l = some m → m < 18446744073709551616 := by
  induction l with
  | nil => intro n m h e; cases e; exact h
  | cons b l ih =>
    intro n m h e
    simp only [rd] at e
    split at e
    · exact ih _ _ (by omega) e
    · cases e

theorem rd_zeros (z : Nat) (l : List UInt8) : rd 0 (List.replicate z 48 ++ l) = rd 0 l := by
  induction z with
  | zero => rfl
  | succ z ih =>
    rw [List.replicate_succ, List.cons_append]
    simp only [rd]
    rw [if_pos (by decide)]
    exact ih

theorem dec_head (n : Nat) : 0 < n → (dec n).head? ≠ some 48 ∧ (dec n).head? ≠ some 45 := by
  induction n using Nat.strongRecOn with
  | _ n ih =>
    intro h
    by_cases h1 : n < 10
    · rw [dec_low h1]
      have := digit_toNat n h1
      constructor
      · intro e; have e' : UInt8.ofNat (48 + n) = 48 := by simpa using e
        rw [e'] at this; have h48 : (48 : UInt8).toNat = 48 := rfl; omega
      · intro e; have e' : UInt8.ofNat (48 + n) = 45 := by simpa using e
        rw [e'] at this; have h45 : (45 : UInt8).toNat = 45 := rfl; omega
    · rw [dec_high h1, head_append (dec_ne _)]
      exact ih (n / 10) (by omega) (by omega)

theorem dec_zero : dec 0 = [48] := dec_low (by omega)

/-- What is read of a row of digits with no zero ahead is written so. -/
theorem dec_of_rd (l : List UInt8) (n : Nat) (hne : l ≠ []) (hz : 1 < l.length → l.head? ≠ some 48) (h : rd 0 l = some n) : l = dec n := by
  induction hk : l.length generalizing l n with
  | zero => exact absurd (List.length_eq_zero_iff.1 hk) hne
  | succ k ih =>
    obtain ⟨l', b, rfl⟩ : ∃ l' b, l = l' ++ [b] := ⟨l.dropLast, l.getLast hne, (List.dropLast_concat_getLast hne).symm⟩
    rw [rd_append] at h
    cases hl : rd 0 l' with
    | none => rw [hl] at h; cases h
    | some m =>
      rw [hl] at h
      have h2 : rd m [b] = some n := h
      simp only [rd] at h2
      split at h2
      · rename_i hc
        have hn : m * 10 + (b.toNat - 48) = n := Option.some.inj h2
        have hb : UInt8.ofNat (48 + (b.toNat - 48)) = b := by
          rw [show 48 + (b.toNat - 48) = b.toNat by omega]; simp
        by_cases he : l' = []
        · subst he
          have hm : 0 = m := Option.some.inj hl
          subst hm
          rw [dec_low (by omega), ← hn]
          simp only [Nat.zero_mul, Nat.zero_add]
          rw [hb]; rfl
        · have hlen : 0 < l'.length := List.length_pos_iff.2 he
          have hh : l'.head? ≠ some 48 := by
            have := hz (by simp; omega)
            rwa [head_append he] at this
          have e := ih l' m he (fun _ => hh) hl (by simp at hk; omega)
          have hm : 0 < m := by
            rcases Nat.eq_zero_or_pos m with h0 | h0
            · subst h0; rw [e, dec_zero] at hh; exact absurd rfl hh
            · exact h0
          rw [dec_high (show ¬ n < 10 by omega), show n / 10 = m by omega, ← e, show n % 10 = b.toNat - 48 by omega, hb]
      · cases h2

/-- One digit or more. -/
def digitsL (l : List UInt8) : Option Nat := if l = [] then none else rd 0 l
/-- No zero ahead. -/
def plainL (l : List UInt8) : Option Nat := if 1 < l.length ∧ l.head? = some 48 then none else digitsL l
/-- A cursor: at most 20 digits. -/
def cursorL (l : List UInt8) : Option Nat := if 20 < l.length then none else digitsL l
/-- The text of a number with its sign. -/
def fmtL (n : Int) : List UInt8 := if n < 0 then 45 :: dec (-n).toNat else dec n.toNat
def belowL (l : List UInt8) : Option Int := (plainL l).bind fun n => if n = 0 ∨ 9223372036854775808 < n then none else some (-(n : Int))
def parseL (l : List UInt8) : Option Int :=
  if l.head? = some 45 then belowL l.tail else (plainL l).bind fun n => if 9223372036854775807 < n then none else some (n : Int)

theorem plainL_dec {n : Nat} (h : n < 18446744073709551616) : plainL (dec n) = some n := by
  unfold plainL digitsL
  rw [if_neg, if_neg (dec_ne n), rd_dec n h]
  rintro ⟨h1, h2⟩
  rcases Nat.eq_zero_or_pos n with h0 | h0
  · subst h0; rw [dec_zero] at h1; simp at h1
  · exact (dec_head n h0).1 h2

theorem plainL_some {l : List UInt8} {n : Nat} (h : plainL l = some n) : l = dec n ∧ n < 18446744073709551616 := by
  unfold plainL digitsL at h
  split at h
  · cases h
  · rename_i hz
    split at h
    · cases h
    · rename_i hne
      exact ⟨dec_of_rd l n hne (fun h1 h2 => hz ⟨h1, h2⟩) h, rd_lt l 0 n (by omega) h⟩

theorem cursorL_dec {n : Nat} (h : n < 18446744073709551616) : cursorL (dec n) = some n := by
  unfold cursorL digitsL
  rw [if_neg (by have := dec_len20 h; omega), if_neg (dec_ne n), rd_dec n h]

theorem cursorL_zeros {n : Nat} (h : n < 18446744073709551616) (z : Nat) (hz : z + (dec n).length ≤ 20) : cursorL (List.replicate z 48 ++ dec n) = some n := by
  unfold cursorL digitsL
  rw [if_neg (by simp; omega), if_neg (by simp [dec_ne]), rd_zeros, rd_dec n h]

theorem dec_head45 (n : Nat) : (dec n).head? ≠ some 45 := by
  rcases Nat.eq_zero_or_pos n with h0 | h0
  · subst h0; rw [dec_zero]; decide
  · exact (dec_head n h0).2

theorem parseL_fmtL {n : Int} (h1 : -9223372036854775808 ≤ n) (h2 : n < 9223372036854775808) : parseL (fmtL n) = some n := by
  unfold parseL fmtL
  by_cases h : n < 0
  · rw [if_pos h, if_pos (show (45 :: dec (-n).toNat).head? = some 45 from rfl), List.tail_cons]
    unfold belowL
    rw [plainL_dec (by omega)]
    show (if _ then _ else _) = _
    rw [if_neg (by omega)]
    congr 1; omega
  · rw [if_neg h, if_neg (dec_head45 _), plainL_dec (by omega)]
    show (if _ then _ else _) = _
    rw [if_neg (by omega)]
    congr 1; omega

theorem parseL_some {l : List UInt8} {n : Int} (h : parseL l = some n) : l = fmtL n ∧ -9223372036854775808 ≤ n ∧ n < 9223372036854775808 := by
  unfold parseL at h
  split at h
  · rename_i h45
    unfold belowL at h
    cases hp : plainL l.tail with
    | none => rw [hp] at h; cases h
    | some m =>
      rw [hp] at h
      have h' : (if m = 0 ∨ 9223372036854775808 < m then none else some (-(m : Int))) = some n := h
      split at h'
      · cases h'
      · have hn : -(m : Int) = n := Option.some.inj h'
        obtain ⟨e, hm⟩ := plainL_some hp
        have hl : l = 45 :: l.tail := by
          cases l with
          | nil => cases h45
          | cons b r => have : b = 45 := by simpa using h45
                        rw [this]; rfl
        refine ⟨?_, by omega, by omega⟩
        unfold fmtL
        rw [if_pos (by omega), hl, e]
        congr 2; omega
  · cases hp : plainL l with
    | none => rw [hp] at h; cases h
    | some m =>
      rw [hp] at h
      have h' : (if 9223372036854775807 < m then none else some (m : Int)) = some n := h
      split at h'
      · cases h'
      · have hn : (m : Int) = n := Option.some.inj h'
        obtain ⟨e, hm⟩ := plainL_some hp
        refine ⟨?_, by omega, by omega⟩
        unfold fmtL
        rw [if_neg (by omega), e]
        congr 1; omega

theorem fmtL_len {n : Int} (h1 : -9223372036854775808 ≤ n) (h2 : n < 9223372036854775808) : (fmtL n).length ≤ 21 := by
  unfold fmtL
  split
  · have := dec_len20 (n := (-n).toNat) (by omega); simp; omega
  · have := dec_len20 (n := n.toNat) (by omega); omega

theorem plainL_lt {l : List UInt8} {n : Nat} (h : plainL l = some n) : n < 18446744073709551616 := (plainL_some h).2
theorem digitsL_lt {l : List UInt8} {n : Nat} (h : digitsL l = some n) : n < 18446744073709551616 := by
  unfold digitsL at h
  split at h
  · cases h
  · exact rd_lt l 0 n (by omega) h
end Go.Proofs.YtlapiaoopmhogaaDoor
