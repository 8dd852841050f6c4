/- Texts that the others stand on. -/
import Derived.Test.YtmjeljldmmkcpaaGreatProg
import Derived.WalkKit
import Derived.WalkSpells
import Derived.Laws.IdiomStrings
import Derived.Deep.LoopGhost
import Derived.Deep.Cut
import Derived.PlainAid
import Derived.Lib.IndexBytes
import Derived.Elder7
namespace Go.Proofs.YtmjeljldmmkcpaaGreat
def rd : Nat → List UInt8 → Option Nat
 | n, [] => some n
 | n, b :: r => if 48 ≤ b.toNat ∧ b.toNat ≤ 57 ∧ n * 10 + (b.toNat - 48) < 18446744073709551616 then rd (n * 10 + (b.toNat - 48)) r else none
def dec (n : Nat) : List UInt8 := if h : n < 10 then [UInt8.ofNat (48 + n)] else dec (n / 10) ++ [UInt8.ofNat (48 + n % 10)]
 termination_by n
 decreasing_by omega
theorem dec_low {n : Nat} (h : n < 10) : dec n = [UInt8.ofNat (48 + n)] := by rw [dec, dif_pos h]
theorem dec_high {n : Nat} (h : ¬ n < 10) : dec n = dec (n / 10) ++ [UInt8.ofNat (48 + n % 10)] := by rw [dec, dif_neg h]
theorem head_append {l r : List UInt8} (h : l ≠ []) : (l ++ r).head? = l.head? := by
 cases l with
 | nil => exact absurd rfl h
 | cons b l => rfl
theorem dec_ne (n : Nat) : dec n ≠ [] := by
 by_cases h : n < 10
 ·rw [dec_low h]; simp
 ·rw [dec_high h]; simp
theorem dec_len (k : Nat) : ∀ n, n < 10 ^ (k + 1) → (dec n).length ≤ k + 1 := by
 induction k with
 | zero => intro n h; rw [dec_low (by simpa using h)]; simp
 | succ k ih =>
  intro n h
  by_cases h1 : n < 10
  ·rw [dec_low h1]; simp
  ·rw [dec_high h1]
   have : n / 10 < 10 ^ (k + 1) := by rw [Nat.div_lt_iff_lt_mul (by omega)]; rw [Nat.pow_succ] at h; exact h
   have := ih _ this
   simp; omega
theorem dec_len20 {n : Nat} (h : n < 18446744073709551616) : (dec n).length ≤ 20 := dec_len 19 n (by omega)
theorem digit_toNat (d : Nat) (h : d < 10) : (UInt8.ofNat (48 + d)).toNat = 48 + d := by
 rw [UInt8.toNat_ofNat']; omega
theorem rd_append (l r : List UInt8) : ∀ n, rd n (l ++ r) = (rd n l).bind fun m => rd m r := by
 induction l with
 | nil => intro n; rfl
 | cons b l ih =>
  intro n
  simp only [List.cons_append, rd]
  split
  ·exact ih _
  ·rfl
theorem rd_digit (n d : Nat) (h : d < 10) (hn : n * 10 + d < 18446744073709551616) : rd n [UInt8.ofNat (48 + d)] = some (n * 10 + d) := by
 simp only [rd, digit_toNat d h]
 rw [if_pos (by omega)]
 congr 1; omega
theorem rd_dec (n : Nat) : n < 18446744073709551616 → rd 0 (dec n) = some n := by
 induction n using Nat.strongRecOn with
 | _ n ih =>
  intro h
  by_cases h1 : n < 10
  ·rw [dec_low h1, rd_digit 0 n h1 (by omega)]; simp
  ·rw [dec_high h1, rd_append, ih (n / 10) (by omega) (by omega)]
   show rd (n / 10) _ = _
   rw [rd_digit _ _ (by omega) (by omega)]
   congr 1; omega
theorem rd_lt (l : List UInt8) : ∀ n m, n < 18446744073709551616 → rd n l = some m → m < 18446744073709551616 := by
 induction l with
 | nil => intro n m h e; cases e; exact h
 | cons b l ih =>
  intro n m h e
  simp only [rd] at e
  split at e
  ·exact ih _ _ (by omega) e
  ·cases e
theorem dec_head (n : Nat) : 0 < n → (dec n).head? ≠ some 48 ∧ (dec n).head? ≠ some 45 := by
 induction n using Nat.strongRecOn with
 | _ n ih =>
  intro h
  by_cases h1 : n < 10
  ·rw [dec_low h1]
   have := digit_toNat n h1
   constructor
   ·intro e; have e' : UInt8.ofNat (48 + n) = 48 := by simpa using e
    rw [e'] at this; have h48 : (48 : UInt8).toNat = 48 := rfl; omega
   ·intro e; have e' : UInt8.ofNat (48 + n) = 45 := by simpa using e
    rw [e'] at this; have h45 : (45 : UInt8).toNat = 45 := rfl; omega
  ·rw [dec_high h1, head_append (dec_ne _)]
   exact ih (n / 10) (by omega) (by omega)
theorem dec_zero : dec 0 = [48] := dec_low (by omega)
theorem dec_of_rd (l : List UInt8) (n : Nat) (hne : l ≠ []) (hz : 1 < l.length → l.head? ≠ some 48) (h : rd 0 l = some n) : l = dec n := by
 induction hk : l.length generalizing l n with
 | zero => exact absurd (List.length_eq_zero_iff.1 hk) hne
 | succ k ih =>
  obtain ⟨l', b, rfl⟩ : ∃ l' b, l = l' ++ [b] := ⟨l.dropLast, l.getLast hne, (List.dropLast_concat_getLast hne).symm⟩
  rw [rd_append] at h
  cases hl : rd 0 l' with
  | none => rw [hl] at h; cases h
  | some m =>
   rw [hl] at h
   have h2 : rd m [b] = some n := h
   simp only [rd] at h2
   split at h2
   ·rename_i hc
    have hn : m * 10 + (b.toNat - 48) = n := Option.some.inj h2
    have hb : UInt8.ofNat (48 + (b.toNat - 48)) = b := by
     rw [show 48 + (b.toNat - 48) = b.toNat by omega]; simp
    by_cases he : l' = []
    ·subst he
     have hm : 0 = m := Option.some.inj hl
     subst hm
     rw [dec_low (by omega), ← hn]
     simp only [Nat.zero_mul, Nat.zero_add]
     rw [hb]; rfl
    ·have hlen : 0 < l'.length := List.length_pos_iff.2 he
     have hh : l'.head? ≠ some 48 := by
      have := hz (by simp; omega)
      rwa [head_append he] at this
     have e := ih l' m he (fun _ => hh) hl (by simp at hk; omega)
     have hm : 0 < m := by
      rcases Nat.eq_zero_or_pos m with h0 | h0
      ·subst h0; rw [e, dec_zero] at hh; exact absurd rfl hh
      ·exact h0
     rw [dec_high (show ¬ n < 10 by omega), show n / 10 = m by omega, ← e, show n % 10 = b.toNat - 48 by omega, hb]
   ·cases h2
def digitsL (l : List UInt8) : Option Nat := if l = [] then none else rd 0 l
def plainL (l : List UInt8) : Option Nat := if 1 < l.length ∧ l.head? = some 48 then none else digitsL l
def fmtL (n : Int) : List UInt8 := if n < 0 then 45 :: dec (-n).toNat else dec n.toNat
def belowL (l : List UInt8) : Option Int := (plainL l).bind fun n => if n = 0 ∨ 9223372036854775808 < n then none else some (-(n : Int))
def B1 (l : List UInt8) : Option Int :=
 if l.head? = some 45 then belowL l.tail else (plainL l).bind fun n => if 9223372036854775807 < n then none else some (n : Int)
theorem plainL_dec {n : Nat} (h : n < 18446744073709551616) : plainL (dec n) = some n := by
 unfold plainL digitsL
 rw [if_neg, if_neg (dec_ne n), rd_dec n h]
 rintro ⟨h1, h2⟩
 rcases Nat.eq_zero_or_pos n with h0 | h0
 ·subst h0; rw [dec_zero] at h1; simp at h1
 ·exact (dec_head n h0).1 h2
theorem plainL_some {l : List UInt8} {n : Nat} (h : plainL l = some n) : l = dec n ∧ n < 18446744073709551616 := by
 unfold plainL digitsL at h
 split at h
 ·cases h
 ·rename_i hz
  split at h
  ·cases h
  ·rename_i hne
   exact ⟨dec_of_rd l n hne (fun h1 h2 => hz ⟨h1, h2⟩) h, rd_lt l 0 n (by omega) h⟩
theorem dec_head45 (n : Nat) : (dec n).head? ≠ some 45 := by
 rcases Nat.eq_zero_or_pos n with h0 | h0
 ·subst h0; rw [dec_zero]; decide
 ·exact (dec_head n h0).2
theorem parseL_fmtL {n : Int} (h1 : -9223372036854775808 ≤ n) (h2 : n < 9223372036854775808) : B1 (fmtL n) = some n := by
 unfold B1 fmtL
 by_cases h : n < 0
 ·rw [if_pos h, if_pos (show (45 :: dec (-n).toNat).head? = some 45 from rfl), List.tail_cons]
  unfold belowL
  rw [plainL_dec (by omega)]
  show (if _ then _ else _) = _
  rw [if_neg (by omega)]
  congr 1; omega
 ·rw [if_neg h, if_neg (dec_head45 _), plainL_dec (by omega)]
  show (if _ then _ else _) = _
  rw [if_neg (by omega)]
  congr 1; omega
theorem parseL_some {l : List UInt8} {n : Int} (h : B1 l = some n) : l = fmtL n ∧ -9223372036854775808 ≤ n ∧ n < 9223372036854775808 := by
  unfold B1 at h
  split at h
  · rename_i h45
    unfold belowL at h
    cases hp : plainL l.tail with
    | none => rw [hp] at h; cases h
    | some m =>
      rw [hp] at h
      have h' : (if m = 0 ∨ 9223372036854775808 < m then none else some (-(m : Int))) = some n := h
      split at h'
      · cases h'
      · have hn : -(m : Int) = n := Option.some.inj h'
        obtain ⟨e, hm⟩ := plainL_some hp
        have hl : l = 45 :: l.tail := by
          cases l with
          | nil => cases h45
          | cons b r => have : b = 45 := by simpa using h45
                        rw [this]; rfl
        refine ⟨?_, by omega, by omega⟩
        unfold fmtL
        rw [if_pos (by omega), hl, e]
        congr 2; omega
  · cases hp : plainL l with
    | none => rw [hp] at h; cases h
    | some m =>
      rw [hp] at h
      have h' : (if 9223372036854775807 < m then none else some (m : Int)) = some n := h
      split at h'
      · cases h'
      · have hn : (m : Int) = n := Option.some.inj h'
        obtain ⟨e, hm⟩ := plainL_some hp
        refine ⟨?_, by omega, by omega⟩
        unfold fmtL
        rw [if_neg (by omega), e]
        congr 1; omega
theorem fmtL_len {n : Int} (h1 : -9223372036854775808 ≤ n) (h2 : n < 9223372036854775808) : (fmtL n).length ≤ 21 := by
 unfold fmtL
 split
 ·have := dec_len20 (n := (-n).toNat) (by omega); simp; omega
 ·have := dec_len20 (n := n.toNat) (by omega); omega
theorem plainL_lt {l : List UInt8} {n : Nat} (h : plainL l = some n) : n < 18446744073709551616 := (plainL_some h).2
def be : Nat → Nat → List UInt8
 | 0, _ => []
 | k + 1, u => UInt8.ofNat (u / 2 ^ (8 * k)) :: be k u
def val (v : Nat) : List UInt8 → Nat
 | [] => v
 | b :: r => val (v * 256 + b.toNat) r
def sgn (u : Nat) : Int := if u < 9223372036854775808 then (u : Int) else (u : Int) - 18446744073709551616
def uns (n : Int) : Nat := (n % 18446744073709551616).toNat
theorem be_len (u : Nat) : ∀ k, (be k u).length = k
 | 0 => rfl
 | k + 1 => by rw [be, List.length_cons, be_len u k]
theorem val_be (u : Nat) : ∀ (k v : Nat), val v (be k u) = v * 2 ^ (8 * k) + u % 2 ^ (8 * k)
 | 0, v => by simp [be, val, Nat.mod_one]
 | k + 1, v => by
  rw [be, val, val_be u k, UInt8.toNat_ofNat']
  have h1 : (2 : Nat) ^ (8 * (k + 1)) = 2 ^ (8 * k) * 256 := by rw [show 8 * (k + 1) = 8 * k + 8 by omega, Nat.pow_add]
  rw [h1, Nat.mod_mul, Nat.add_mul]
  have : v * 256 * 2 ^ (8 * k) = v * (2 ^ (8 * k) * 256) := by rw [Nat.mul_assoc, Nat.mul_comm 256]
  rw [this, Nat.mul_comm (2 ^ (8 * k)) (u / 2 ^ (8 * k) % 256)]
  show v * (2 ^ (8 * k) * 256) + u / 2 ^ (8 * k) % 256 * 2 ^ (8 * k) + u % 2 ^ (8 * k) = _
  omega
theorem val_lt : ∀ (l : List UInt8) (v : Nat), val v l < (v + 1) * 256 ^ l.length
 | [], v => by simp [val]
 | b :: r, v => by
  have h := val_lt r (v * 256 + b.toNat)
  have hb := b.toNat_lt
  rw [val, List.length_cons, Nat.pow_succ]
  have : (v * 256 + b.toNat + 1) * 256 ^ r.length ≤ ((v + 1) * 256) * 256 ^ r.length := Nat.mul_le_mul_right _ (by omega)
  have e : (v + 1) * 256 * 256 ^ r.length = (v + 1) * (256 ^ r.length * 256) := by rw [Nat.mul_assoc, Nat.mul_comm 256]
  omega
theorem val_inj : ∀ (l r : List UInt8) (v w : Nat), l.length = r.length → val v l = val w r → v = w ∧ l = r
 | [], [], v, w, _, h => ⟨h, rfl⟩
 | x :: l, y :: r, v, w, hl, h => by
  obtain ⟨h1, h2⟩ := val_inj l r _ _ (by simpa using hl) h
  have := x.toNat_lt
  have := y.toNat_lt
  have h3 : x.toNat = y.toNat := by omega
  refine ⟨by omega, ?_⟩
  rw [h2, UInt8.toNat_inj.1 h3]
theorem be_val (l : List UInt8) (h : l.length = 8) : be 8 (val 0 l) = l := by
 have h1 := val_be (val 0 l) 8 0
 have h2 := val_lt l 0
 rw [h] at h2
 rw [Nat.mod_eq_of_lt (by simpa using h2)] at h1
 exact (val_inj _ l 0 0 (by rw [be_len, h]) (by omega)).2
theorem sgn_uns {n : Int} (h1 : -9223372036854775808 ≤ n) (h2 : n < 9223372036854775808) : sgn (uns n) = n := by unfold sgn uns; split <;> omega
theorem uns_sgn {u : Nat} (h : u < 18446744073709551616) : uns (sgn u) = u := by unfold sgn uns; split <;> omega
theorem uns_lt (n : Int) : uns n < 18446744073709551616 := by unfold uns; omega
theorem sgn_in {u : Nat} (h : u < 18446744073709551616) : -9223372036854775808 ≤ sgn u ∧ sgn u < 9223372036854775808 := by unfold sgn; split <;> omega
theorem val8_be (n : Int) : val 0 (be 8 (uns n)) = uns n := by
 rw [val_be]; have := uns_lt n; omega
def body (l : List UInt8) : List UInt8 :=
 match B1 l with
 | some n => if 0 ≤ n ∧ n ≤ 127 then [UInt8.ofNat n.toNat] else 241 :: be 8 (uns n)
 | none => if l.length ≤ 63 then UInt8.ofNat (128 + l.length) :: l else 224 :: UInt8.ofNat (l.length / 256) :: UInt8.ofNat l.length :: l
def back (n : Nat) : List UInt8 := if n < 128 then [UInt8.ofNat n] else [UInt8.ofNat (n / 128), UInt8.ofNat (128 + n % 128)]
def enc (l : List UInt8) : List UInt8 := body l ++ back (body l).length
theorem body_small {l : List UInt8} {n : Int} (h : B1 l = some n) (h1 : 0 ≤ n ∧ n ≤ 127) : body l = [UInt8.ofNat n.toNat] := by unfold body; rw [h]; simp only [h1, and_self, if_true]
theorem body_wide {l : List UInt8} {n : Int} (h : B1 l = some n) (h1 : ¬ (0 ≤ n ∧ n ≤ 127)) : body l = 241 :: be 8 (uns n) := by unfold body; rw [h]; simp only [h1, if_false]
theorem body_short {l : List UInt8} (h : B1 l = none) (h1 : l.length ≤ 63) : body l = UInt8.ofNat (128 + l.length) :: l := by unfold body; rw [h]; simp only [h1, if_true]
theorem body_long {l : List UInt8} (h : B1 l = none) (h1 : ¬ l.length ≤ 63) : body l = 224 :: UInt8.ofNat (l.length / 256) :: UInt8.ofNat l.length :: l := by unfold body; rw [h]; simp only [h1, if_false]
theorem body_ways (l : List UInt8) :
  (∃ n, B1 l = some n ∧ (0 ≤ n ∧ n ≤ 127) ∧ body l = [UInt8.ofNat n.toNat]) ∨ (∃ n, B1 l = some n ∧ ¬ (0 ≤ n ∧ n ≤ 127) ∧ body l = 241 :: be 8 (uns n)) ∨
  (B1 l = none ∧ l.length ≤ 63 ∧ body l = UInt8.ofNat (128 + l.length) :: l) ∨ (B1 l = none ∧ ¬ l.length ≤ 63 ∧ body l = 224 :: UInt8.ofNat (l.length / 256) :: UInt8.ofNat l.length :: l) := by
 cases h : B1 l with
 | some n =>
  by_cases h1 : 0 ≤ n ∧ n ≤ 127
  ·exact .inl ⟨n, rfl, h1, body_small h h1⟩
  ·exact .inr (.inl ⟨n, rfl, h1, body_wide h h1⟩)
 | none =>
  by_cases h1 : l.length ≤ 63
  ·exact .inr (.inr (.inl ⟨rfl, h1, body_short h h1⟩))
  ·exact .inr (.inr (.inr ⟨rfl, h1, body_long h h1⟩))
theorem body_len (l : List UInt8) : 1 ≤ (body l).length ∧ (body l).length ≤ l.length + 9 := by
 rcases body_ways l with ⟨n, h, h1, e⟩ | ⟨n, h, h1, e⟩ | ⟨h, h1, e⟩ | ⟨h, h1, e⟩ <;> rw [e]
 ·simp
 ·rw [List.length_cons, be_len]; omega
 ·simp
 ·simp
theorem back_len (n : Nat) : (back n).length = if n < 128 then 1 else 2 := by unfold back; split <;> rfl
theorem enc_len (l : List UInt8) : 2 ≤ (enc l).length ∧ (enc l).length ≤ l.length + 11 := by
 have := body_len l
 have h := back_len (body l).length
 unfold enc
 rw [List.length_append]
 split at h <;> omega
def dtext (b : List UInt8) (h n : Nat) : Option (List UInt8 × Nat) :=
 if b.length < h + n then none else if (B1 ((b.drop h).take n)).isSome then none else some ((b.drop h).take n, h + n)
def dbody (b : List UInt8) : Option (List UInt8 × Nat) :=
 match b with
 | [] => none
 | x :: r =>
  if x.toNat < 128 then some (fmtL x.toNat, 1)
  else if x.toNat = 241 then
   if r.length < 8 then none
   else if 0 ≤ sgn (val 0 (r.take 8)) ∧ sgn (val 0 (r.take 8)) < 128 then none else some (fmtL (sgn (val 0 (r.take 8))), 9)
  else if x.toNat = 224 then
   if r.length < 2 then none
   else if (r.getD 0 0).toNat * 256 + (r.getD 1 0).toNat ≤ 63 ∨ 4096 < (r.getD 0 0).toNat * 256 + (r.getD 1 0).toNat then none
   else dtext b 3 ((r.getD 0 0).toNat * 256 + (r.getD 1 0).toNat)
  else if x.toNat ≤ 191 then dtext b 1 (x.toNat - 128)
  else none
def pre (p l : List UInt8) : Bool := decide (l.take p.length = p)
theorem pre_append (p r : List UInt8) : pre p (p ++ r) = true := by unfold pre; simp
theorem pre_ex {p l : List UInt8} (h : pre p l = true) : ∃ r, l = p ++ r := by
 unfold pre at h
 have h := of_decide_eq_true h
 exact ⟨l.drop p.length, by conv => lhs; rw [← List.take_append_drop p.length l, h]⟩
def dec1 (b : List UInt8) : Option (List UInt8 × Nat) :=
 match dbody b with
 | none => none
 | some (s, k) => if pre (back k) (b.drop k) then some (s, k + (back k).length) else none
theorem B9 (x : UInt8) (r : List UInt8) : dbody (x :: r) =
  if x.toNat < 128 then some (fmtL x.toNat, 1)
  else if x.toNat = 241 then
   if r.length < 8 then none
   else if 0 ≤ sgn (val 0 (r.take 8)) ∧ sgn (val 0 (r.take 8)) < 128 then none else some (fmtL (sgn (val 0 (r.take 8))), 9)
  else if x.toNat = 224 then
   if r.length < 2 then none
   else if (r.getD 0 0).toNat * 256 + (r.getD 1 0).toNat ≤ 63 ∨ 4096 < (r.getD 0 0).toNat * 256 + (r.getD 1 0).toNat then none
   else dtext (x :: r) 3 ((r.getD 0 0).toNat * 256 + (r.getD 1 0).toNat)
  else if x.toNat ≤ 191 then dtext (x :: r) 1 (x.toNat - 128)
  else none := rfl
theorem nat_ofNat {n : Nat} (h : n < 256) : (UInt8.ofNat n).toNat = n := by rw [UInt8.toNat_ofNat']; omega
theorem parse_in {l : List UInt8} {n : Int} (h : B1 l = some n) : l = fmtL n ∧ -9223372036854775808 ≤ n ∧ n < 9223372036854775808 := parseL_some h
theorem dbody_body (l r : List UInt8) (hl : l.length ≤ 4096) : dbody (body l ++ r) = some (l, (body l).length) := by
 rcases body_ways l with ⟨n, h, h1, e⟩ | ⟨n, h, h1, e⟩ | ⟨h, h1, e⟩ | ⟨h, h1, e⟩ <;> rw [e]
 ·obtain ⟨he, -, -⟩ := parse_in h
  have hx : (UInt8.ofNat n.toNat).toNat = n.toNat := nat_ofNat (by omega)
  show (if _ then _ else _) = _
  rw [hx, if_pos (by omega), show ((n.toNat : Nat) : Int) = n by omega, ← he]; rfl
 ·obtain ⟨he, h2, h3⟩ := parse_in h
  have hlen : (be 8 (uns n) ++ r).length = 8 + r.length := by rw [List.length_append, be_len]
  have htk : (be 8 (uns n) ++ r).take 8 = be 8 (uns n) := by
   rw [List.take_append_of_le_length (by rw [be_len]; omega), List.take_of_length_le (by rw [be_len]; omega)]
  rw [List.cons_append, B9]
  rw [if_neg (by decide), if_pos (by decide), if_neg (by rw [hlen]; omega), htk, val8_be, sgn_uns h2 h3, if_neg (by omega), ← he, List.length_cons, be_len]
 ·have hx : (UInt8.ofNat (128 + l.length)).toNat = 128 + l.length := nat_ofNat (by omega)
  show (if _ then _ else if _ then _ else if _ then _ else if _ then dtext (UInt8.ofNat (128 + l.length) :: (l ++ r)) 1 _ else _) = _
  rw [hx, if_neg (by omega), if_neg (by omega), if_neg (by omega), if_pos (by omega), dtext, if_neg (by simp; omega), Nat.add_sub_cancel_left]
  have e2 : ((UInt8.ofNat (128 + l.length) :: (l ++ r)).drop 1).take l.length = l := by simp
  rw [e2, h, List.length_cons, Nat.add_comm]; rfl
 ·have hx : (UInt8.ofNat (l.length / 256)).toNat = l.length / 256 := nat_ofNat (by omega)
  have hy : (UInt8.ofNat l.length).toNat = l.length % 256 := UInt8.toNat_ofNat' ..
  rw [List.cons_append, List.cons_append, List.cons_append, B9, show (UInt8.ofNat (l.length / 256) :: UInt8.ofNat l.length :: (l ++ r)).getD 0 0 = UInt8.ofNat (l.length / 256) from rfl, show (UInt8.ofNat (l.length / 256) :: UInt8.ofNat l.length :: (l ++ r)).getD 1 0 = UInt8.ofNat l.length from rfl]
  rw [if_neg (by decide), if_neg (by decide), if_pos (by decide), if_neg (by simp), hx, hy, show l.length / 256 * 256 + l.length % 256 = l.length by omega, if_neg (by omega), dtext, if_neg (by simp; omega)]
  have e2 : ((224 :: UInt8.ofNat (l.length / 256) :: UInt8.ofNat l.length :: (l ++ r)).drop 3).take l.length = l := by simp
  rw [e2, h]
  simp only [List.length_cons, Option.isSome_none, Bool.false_eq_true, if_false, Nat.add_comm 3]
theorem byte_of {x : UInt8} {n : Nat} (h : x.toNat = n % 256) : x = UInt8.ofNat n := UInt8.toNat_inj.1 (by rw [h, UInt8.toNat_ofNat'])
theorem dtext_some {b s : List UInt8} {h n k : Nat} (hd : dtext b h n = some (s, k)) : B1 s = none ∧ s.length = n ∧ k = h + n ∧ ∃ r, b = b.take h ++ (s ++ r) := by
 unfold dtext at hd
 split at hd
 ·cases hd
 ·rename_i hlen
  split at hd
  ·cases hd
  ·rename_i hp
   have := Option.some.inj hd
   obtain ⟨e1, e2⟩ := Prod.mk.inj this
   subst e1 e2
   refine ⟨by simpa using hp, by rw [List.length_take, List.length_drop]; omega, rfl, (b.drop h).drop n, ?_⟩
   rw [List.take_append_drop, List.take_append_drop]
theorem dbody_some {b s : List UInt8} {k : Nat} (hd : dbody b = some (s, k)) : s.length ≤ 4096 ∧ k = (body s).length ∧ ∃ r, b = body s ++ r := by
 cases b with
 | nil => cases hd
 | cons x r =>
  have hxl := x.toNat_lt
  unfold dbody at hd
  dsimp only at hd
  split at hd
  ·rename_i h1
   obtain ⟨e1, e2⟩ := Prod.mk.inj (Option.some.inj hd)
   subst e1 e2
   have hp : B1 (fmtL x.toNat) = some (x.toNat : Int) := parseL_fmtL (by omega) (by omega)
   have hb := body_small hp (by omega)
   have hx : UInt8.ofNat ((x.toNat : Int)).toNat = x := UInt8.toNat_inj.1 (by rw [UInt8.toNat_ofNat']; omega)
   rw [hx] at hb
   have := fmtL_len (n := (x.toNat : Int)) (by omega) (by omega)
   exact ⟨by omega, by rw [hb]; rfl, r, by rw [hb]; rfl⟩
  ·split at hd
   ·rename_i h1 h2
    split at hd
    ·cases hd
    ·rename_i hlen
     split at hd
     ·cases hd
     ·rename_i hs
      obtain ⟨e1, e2⟩ := Prod.mk.inj (Option.some.inj hd)
      have hl8 : (r.take 8).length = 8 := by rw [List.length_take]; omega
      have hv : val 0 (r.take 8) < 18446744073709551616 := by have := val_lt (r.take 8) 0; rw [hl8] at this; omega
      have hin := sgn_in hv
      have hp := parseL_fmtL hin.1 hin.2
      have hb := body_wide hp (by omega)
      rw [uns_sgn hv, be_val _ hl8] at hb
      subst e1 e2
      have := fmtL_len hin.1 hin.2
      have hx : x = 241 := UInt8.toNat_inj.1 h2
      refine ⟨by omega, by rw [hb, List.length_cons, hl8], r.drop 8, ?_⟩
      rw [hb, List.cons_append, List.take_append_drop, hx]
   ·split at hd
    ·rename_i h1 h2 h3
     split at hd
     ·cases hd
     ·rename_i hlen
      split at hd
      ·cases hd
      ·rename_i hn
       obtain ⟨y, z, r', rfl⟩ : ∃ y z r', r = y :: z :: r' := by
        cases r with
        | nil => exact absurd (show ([] : List UInt8).length < 2 by decide) hlen
        | cons y r1 =>
         cases r1 with
         | nil => exact absurd (show [y].length < 2 from Nat.lt_succ_self 1) hlen
         | cons z r' => exact ⟨y, z, r', rfl⟩
       obtain ⟨h4, h5, h6, q, h7⟩ := dtext_some hd
       have hy := y.toNat_lt
       have hz := z.toNat_lt
       change s.length = y.toNat * 256 + z.toNat at h5
       change ¬ (y.toNat * 256 + z.toNat ≤ 63 ∨ 4096 < y.toNat * 256 + z.toNat) at hn
       change k = 3 + (y.toNat * 256 + z.toNat) at h6
       have hb := body_long h4 (by omega)
       have hx : x = 224 := UInt8.toNat_inj.1 h3
       rw [h5, ← byte_of (x := y) (by omega), ← byte_of (x := z) (by omega), ← hx] at hb
       refine ⟨by omega, by rw [hb]; simp only [List.length_cons]; omega, q, ?_⟩
       rw [hb, h7]; rfl
    ·split at hd
     ·rename_i h1 h2 h3 h4
      obtain ⟨h5, h6, h7, q, h8⟩ := dtext_some hd
      have hb := body_short h5 (by omega)
      rw [h6, show 128 + (x.toNat - 128) = x.toNat by omega, ← byte_of (x := x) (by omega)] at hb
      refine ⟨by omega, by rw [hb, List.length_cons]; omega, q, ?_⟩
      rw [hb, h8]; rfl
     ·cases hd
theorem dec_enc (l r : List UInt8) (hl : l.length ≤ 4096) : dec1 (enc l ++ r) = some (l, (enc l).length) := by
 unfold dec1 enc
 rw [List.append_assoc, dbody_body l _ hl]
 dsimp only
 rw [List.drop_left, pre_append, List.length_append]; rfl
def decAt (b : List UInt8) (at' : Int) : Option (List UInt8 × Nat) :=
 if at' < 0 ∨ (b.length : Int) ≤ at' then none else (dec1 (b.drop at'.toNat)).map fun p => (p.1, at'.toNat + p.2)
def begn (b : List UInt8) : Option Int :=
 if (b.getD (b.length - 1) 0).toNat < 128 then some ((b.length : Int) - 1 - (b.getD (b.length - 1) 0).toNat)
 else if b.length < 2 then none
 else some ((b.length : Int) - 2 - (128 * (b.getD (b.length - 2) 0).toNat + (b.getD (b.length - 1) 0).toNat - 128))
def bkAt (b : List UInt8) (e : Int) : Option Int :=
 if e ≤ 0 ∨ (b.length : Int) < e then none
 else match begn (b.take e.toNat) with
  | none => none
  | some k => match decAt b k with
   | none => none
   | some p => if (p.2 : Int) = e then some k else none
theorem decAt_enc (p l r : List UInt8) (hl : l.length ≤ 4096) : decAt (p ++ (enc l ++ r)) p.length = some (l, p.length + (enc l).length) := by
 have := (enc_len l).1
 unfold decAt
 rw [if_neg (by simp only [List.length_append]; omega), show ((p.length : Int)).toNat = p.length by omega, List.drop_left, dec_enc l r hl]; rfl
theorem begn_enc (p l : List UInt8) (hl : l.length ≤ 4096) : begn (p ++ enc l) = some (p.length : Int) := by
 have hb := body_len l
 obtain ⟨m, hm⟩ : ∃ m, (body l).length = m := ⟨_, rfl⟩
 have he : p ++ enc l = p ++ body l ++ back m := by unfold enc; rw [hm, List.append_assoc]
 have hq : (p ++ body l).length = p.length + m := by rw [List.length_append, hm]
 rw [he]
 generalize p ++ body l = q at hq
 rw [hm] at hb
 unfold back
 split
 ·rename_i h
  have h1 : (q ++ [UInt8.ofNat m]).length = p.length + m + 1 := by simp [hq]
  have h2 : (q ++ [UInt8.ofNat m]).getD (p.length + m) 0 = UInt8.ofNat m := by
   rw [List.getD_eq_getElem?_getD, ← hq, List.getElem?_append_right (Nat.le_refl _), Nat.sub_self]; rfl
  unfold begn
  rw [h1, Nat.add_sub_cancel, h2, nat_ofNat (by omega), if_pos h]
  congr 1; omega
 ·rename_i h
  have h1 : (q ++ [UInt8.ofNat (m / 128), UInt8.ofNat (128 + m % 128)]).length = p.length + m + 2 := by simp [hq]
  have h2 : (q ++ [UInt8.ofNat (m / 128), UInt8.ofNat (128 + m % 128)]).getD (p.length + m + 1) 0 = UInt8.ofNat (128 + m % 128) := by
   rw [List.getD_eq_getElem?_getD, ← hq, List.getElem?_append_right (by omega), Nat.add_sub_cancel_left]; rfl
  have h3 : (q ++ [UInt8.ofNat (m / 128), UInt8.ofNat (128 + m % 128)]).getD (p.length + m) 0 = UInt8.ofNat (m / 128) := by
   rw [List.getD_eq_getElem?_getD, ← hq, List.getElem?_append_right (Nat.le_refl _), Nat.sub_self]; rfl
  unfold begn
  rw [h1, show p.length + m + 2 - 1 = p.length + m + 1 by omega, show p.length + m + 2 - 2 = p.length + m by omega, h2, h3, nat_ofNat (by omega), nat_ofNat (by omega), if_neg (by omega), if_neg (by omega)]
  congr 1; omega
theorem bkAt_enc (p l r : List UInt8) (hl : l.length ≤ 4096) : bkAt (p ++ (enc l ++ r)) ((p.length + (enc l).length : Nat) : Int) = some (p.length : Int) := by
 have := (enc_len l).1
 have h1 : (p ++ (enc l ++ r)).take (p.length + (enc l).length) = p ++ enc l := by
  rw [← List.append_assoc, List.take_append_of_le_length (by rw [List.length_append]; omega), List.take_of_length_le (by rw [List.length_append]; omega)]
 unfold bkAt
 rw [if_neg (by simp only [List.length_append]; omega), show (((p.length + (enc l).length : Nat) : Int)).toNat = p.length + (enc l).length by omega, h1, begn_enc p l hl]
 show (match decAt (p ++ (enc l ++ r)) p.length with | none => none | some q => if (q.2 : Int) = _ then some _ else none) = _
 rw [decAt_enc p l r hl]
 show (if _ then _ else _) = _
 rw [if_pos rfl]
end Go.Proofs.YtmjeljldmmkcpaaGreat
namespace Go.Proofs.YtmjeljldmmkcpaaGreat
open Go.RowKit Go.PlainAid
abbrev lst (s : ByteArray) : List UInt8 := s.data.toList
def u64R (o : Option Nat) : Value := .tuple #[.int .u64 (o.getD 0 : Nat), .bool o.isSome]
def i64R (o : Option Int) : Value := .tuple #[.int .i64 (o.getD 0), .bool o.isSome]
theorem fits_yes (n d : Int) (w : World) (h0 : 0 ≤ d) (h9 : d ≤ 9) (hf : n * 10 + d < 18446744073709551616) :
  Calls Tryz.prog 301 #[.int .u64 n, .int .u64 d] w fun e w' => e = .returned (.bool true) ∧ w' = w := by
 have hq : n ≤ (18446744073709551615 - d) / 10 := by omega
 go_enter Tryz.func301, Tryz.ntmps301
 go_wp2
 go_ret
 exact ⟨rfl, rfl⟩
theorem fits_no (n d : Int) (w : World) (h0 : 0 ≤ d) (h9 : d ≤ 9) (hf : ¬ n * 10 + d < 18446744073709551616) :
  Calls Tryz.prog 301 #[.int .u64 n, .int .u64 d] w fun e w' => e = .returned (.bool false) ∧ w' = w := by
 have hq : ¬ n ≤ (18446744073709551615 - d) / 10 := by omega
 go_enter Tryz.func301, Tryz.ntmps301
 go_wp2
 go_ret
 exact ⟨rfl, rfl⟩
theorem drop_at (s : ByteArray) (k : Nat) (h : k < s.size) : (lst s).drop k = s[k] :: (lst s).drop (k + 1) := by
 rw [List.drop_eq_getElem_cons (by simpa using h)]; rfl
theorem rd_bad {l r : List UInt8} {b : UInt8} {n : Nat} {c : Int} (hl : l = b :: r) (hc : (b.toNat : Int) = c) (h : c < 48 ∨ 57 < c ∨ ¬ (n : Int) * 10 + (c - 48) < 18446744073709551616) : rd n l = none := by
 subst hl
 simp only [rd]
 rw [if_neg (by omega)]
theorem rd_good {l r : List UInt8} {b : UInt8} {n : Nat} {c : Int} (hl : l = b :: r) (hc : (b.toNat : Int) = c) (h1 : 48 ≤ c) (h2 : c ≤ 57) (h3 : (n : Int) * 10 + (c - 48) < 18446744073709551616) : rd n l = rd ((n : Int) * 10 + (c - 48)).toNat r := by
 subst hl
 simp only [rd]
 rw [if_pos (by omega)]
 congr 1; omega
theorem digits_none (w : World) : Calls Tryz.prog 300 #[.string ⟨#[]⟩] w fun e w' => e = .returned (u64R none) ∧ w' = w := by
 go_enter Tryz.func300, Tryz.ntmps300
 go_wp2
 go_ret2
 exact ⟨rfl, rfl⟩
set_option maxHeartbeats 1000000 in
theorem digits_any (s : ByteArray) (w : World) (hs : s.size ≤ maxLen) (o : Option Nat) (ho : digitsL (lst s) = o) :
    Calls Tryz.prog 300 #[.string s] w fun e w' => e = .returned (u64R o) ∧ w' = w := by
  unfold maxLen at hs
  by_cases he : lst s = []
  · have hs0 : s = ⟨#[]⟩ := by
      cases s with
      | mk d => have : d.toList = [] := he
                rw [Array.toList_eq_nil_iff] at this; rw [this]
    subst hs0
    rw [← ho]
    exact digits_none w
  have HO : Hid (rd 0 (lst s) = o) := by show rd 0 _ = _; rw [← ho]; unfold digitsL; rw [if_neg he]
  have hne : s.toList.isEmpty = false := by
    rw [ByteArray.toList_eq]; simpa using he
  clear ho he
  go_enter Tryz.func300, Tryz.ntmps300
  go_wp2
  go_loopg [4, 5] s.size (fun g nv i wr => w = wr ∧ ∃ k n : Nat, k + g = s.size ∧ i = .int .i64 k ∧ nv = .int .u64 n ∧ n < 18446744073709551616 ∧ Hid (rd n ((lst s).drop k) = o))
  case atStart => exact ⟨rfl, 0, 0, by omega, rfl, rfl, by omega, HO⟩
  case round =>
    obtain ⟨rfl, k, n, hk, rfl, rfl, hn, H⟩ := hrel
    have HK : Hid (k + gk = s.size) := hk
    clear hk HO
    by_cases hlt : k < s.size
    · have HD : Hid ((lst s).drop k = s[k] :: (lst s).drop (k + 1)) := drop_at s k hlt
      obtain ⟨c, hc⟩ : ∃ c : Int, ((s[k]'hlt).toNat : Int) = c := ⟨_, rfl⟩
      have hc0 : 0 ≤ c ∧ c ≤ 255 := by have := (s[k]'hlt).toNat_lt; omega
      have HC : Hid (((s[k]'hlt).toNat : Int) = c) := hc
      have e1 : IntKind.u64.wrap c = c := u64_nonneg (by omega) (by omega)
      by_cases h1 : c < 48
      · have e2 : IntKind.u64.wrap (c - 48) = c - 48 + 18446744073709551616 := u64_neg (by omega) (by omega)
        have HN : Hid (none = o) := (rd_bad HD.out HC.out (by omega)).symm.trans H.out
        go_wp2
        go_ret2
        exact ⟨by rw [← HN.out]; rfl, rfl⟩
      by_cases h2 : 57 < c
      · have HN : Hid (none = o) := (rd_bad HD.out HC.out (by omega)).symm.trans H.out
        go_wp2
        go_ret2
        exact ⟨by rw [← HN.out]; rfl, rfl⟩
      by_cases h3 : (n : Int) * 10 + (c - 48) < 18446744073709551616
      · have HN : Hid (rd ((n : Int) * 10 + (c - 48)).toNat ((lst s).drop (k + 1)) = o) := (rd_good HD.out HC.out (by omega) (by omega) h3).symm.trans H.out
        go_wp2_with (go_at_call 301; refine (fits_yes _ _ _ (by omega) (by omega) h3).mono ?_; rintro e w ⟨rfl, rfl⟩)
        go_roundg (gk - 1)
        case measure => have := HK.out; omega
        case rel => exact ⟨rfl, k + 1, ((n : Int) * 10 + (c - 48)).toNat, by have := HK.out; omega, by go_num, by go_num, by omega, HN⟩
      · have HN : Hid (none = o) := (rd_bad HD.out HC.out (by omega)).symm.trans H.out
        go_wp2_with (go_at_call 301; refine (fits_no _ _ _ (by omega) (by omega) h3).mono ?_; rintro e w ⟨rfl, rfl⟩)
        go_ret2
        exact ⟨by rw [← HN.out]; rfl, rfl⟩
    · have HN : Hid (some n = o) := by
        have := H.out
        rw [List.drop_eq_nil_of_le (by simp; omega)] at this
        exact this
      go_wp2
      go_ret2
      exact ⟨by rw [← HN.out]; rfl, rfl⟩
theorem head_at (s : ByteArray) (h : 0 < s.size) : (lst s).head? = some (s[0]'h) := by
 have := drop_at s 0 h
 rw [List.drop_zero] at this
 rw [this]; rfl
theorem tail_at (s : ByteArray) : lst (s.extract 1 s.size) = (lst s).tail := by
 unfold lst; rw [Lib.extract_to_end, List.drop_one]
theorem byte_eq {b : UInt8} {c : Int} (h : (b.toNat : Int) = c) (k : Nat) (hk : k < 256) : b = UInt8.ofNat k ↔ c = k := by
 constructor
 ·rintro rfl
  rw [UInt8.toNat_ofNat'] at h; omega
 ·intro e
  have : b.toNat = k := by omega
  rw [← this]; simp
theorem Cf (s : ByteArray) (w : World) (hs : s.size ≤ maxLen) (o : Option Nat) (ho : plainL (lst s) = o) :
  Calls Tryz.prog 298 #[.string s] w fun e w' => e = .returned (u64R o) ∧ w' = w := by
 have HS : Hid (s.size ≤ maxLen) := hs
 unfold maxLen at hs
 by_cases hlt : 1 < s.size
 ·have h0 : 0 < s.size := by omega
  obtain ⟨c, hc⟩ : ∃ c : Int, ((s[0]'h0).toNat : Int) = c := ⟨_, rfl⟩
  have hh := head_at s h0
  by_cases h48 : c = 48
  ·subst h48
   have HN : Hid (none = o) := by
    show none = o
    rw [← ho, plainL, if_pos]
    refine ⟨by simpa using hlt, ?_⟩
    rw [hh, (byte_eq hc 48 (by omega)).2 rfl]; rfl
   clear ho hh
   go_enter Tryz.func298, Tryz.ntmps298
   go_wp2
   go_ret2
   exact ⟨by rw [← HN.out]; rfl, rfl⟩
  ·have HN : Hid (digitsL (lst s) = o) := by
    show _ = o
    rw [← ho, plainL, if_neg]
    rintro ⟨-, h2⟩
    rw [hh] at h2
    exact h48 ((byte_eq hc 48 (by omega)).1 (Option.some.inj h2))
   clear ho hh
   have hq : (c == 48) = false := by simp [h48]
   clear h48
   go_enter Tryz.func298, Tryz.ntmps298
   go_wp2_with (go_at_call 300; refine (digits_any s _ HS.out o HN.out).mono ?_; rintro e w ⟨rfl, rfl⟩; unfold u64R)
   go_ret2
   exact ⟨rfl, rfl⟩
 ·have HN : Hid (digitsL (lst s) = o) := by
   show _ = o
   rw [← ho, plainL, if_neg]
   rintro ⟨h1, -⟩
   exact hlt (by simpa using h1)
  clear ho
  go_enter Tryz.func298, Tryz.ntmps298
  go_wp2_with (go_at_call 300; refine (digits_any s _ HS.out o HN.out).mono ?_; rintro e w ⟨rfl, rfl⟩; unfold u64R)
  go_ret2
  exact ⟨rfl, rfl⟩
theorem below_any (s : ByteArray) (w : World) (hs : s.size ≤ maxLen) (o : Option Int) (ho : belowL (lst s) = o) :
  Calls Tryz.prog 297 #[.string s] w fun e w' => e = .returned (i64R o) ∧ w' = w := by
 unfold belowL at ho
 cases hp : plainL (lst s) with
 | none =>
  rw [hp] at ho
  have HN : Hid (none = o) := ho
  clear ho
  go_enter Tryz.func297, Tryz.ntmps297
  go_wp2_with (go_at_call 298; refine (Cf s _ hs none hp).mono ?_; rintro e w ⟨rfl, rfl⟩; dsimp only [u64R, Option.getD_none, Option.isSome_none])
  go_ret2
  exact ⟨by rw [← HN.out]; rfl, rfl⟩
 | some n =>
  rw [hp] at ho
  have hn := plainL_lt hp
  have ho' : (if n = 0 ∨ 9223372036854775808 < n then none else some (-(n : Int))) = o := ho
  clear ho
  by_cases h : n = 0 ∨ 9223372036854775808 < n
  ·rw [if_pos h] at ho'
   have HN : Hid (none = o) := ho'
   clear ho'
   have hh : (n : Int) = 0 ∨ (9223372036854775808 : Int) < n := by omega
   clear h
   rcases hh with h | h
   ·go_enter Tryz.func297, Tryz.ntmps297
    go_wp2_with (go_at_call 298; refine (Cf s _ hs (some n) hp).mono ?_; rintro e w ⟨rfl, rfl⟩; dsimp only [u64R, Option.getD_some, Option.isSome_some])
    go_ret2
    exact ⟨by rw [← HN.out]; rfl, rfl⟩
   ·have hq : ((n : Int) == 0) = false := by simp; omega
    go_enter Tryz.func297, Tryz.ntmps297
    go_wp2_with (go_at_call 298; refine (Cf s _ hs (some n) hp).mono ?_; rintro e w ⟨rfl, rfl⟩; dsimp only [u64R, Option.getD_some, Option.isSome_some])
    go_ret2
    exact ⟨by rw [← HN.out]; rfl, rfl⟩
  ·rw [if_neg h] at ho'
   have HN : Hid (some (-(n : Int)) = o) := ho'
   clear ho'
   have h1 : 0 < (n : Int) := by omega
   have h2 : ¬ (9223372036854775808 : Int) < n := by omega
   have hq : ((n : Int) == 0) = false := by simp; omega
   clear h
   have HW : Hid (wrap64 (-(wrap64 (n : Int))) = -(n : Int)) := by
    show _ = _
    unfold wrap64; omega
   go_enter Tryz.func297, Tryz.ntmps297
   go_wp2_with (go_at_call 298; refine (Cf s _ hs (some n) hp).mono ?_; rintro e w ⟨rfl, rfl⟩; dsimp only [u64R, Option.getD_some, Option.isSome_some])
   go_ret2
   exact ⟨by rw [← HN.out, HW.out]; rfl, rfl⟩
theorem Parse_minus (s : ByteArray) (w : World) (hs : s.size ≤ maxLen) (h0 : 0 < s.size) (hc : ((s[0]'h0).toNat : Int) = 45) (o : Option Int) (ho : belowL (lst s).tail = o) :
  Calls Tryz.prog 292 #[.string s] w fun e w' => e = .returned (i64R o) ∧ w' = w := by
 have hx : (s.extract 1 s.size).size ≤ maxLen := by
  have : (s.extract 1 s.size).size ≤ s.size := by simp
  omega
 have HN : Hid (belowL (lst (s.extract 1 s.size)) = o) := by
  show _ = o
  rw [tail_at]; exact ho
 have HX : Hid ((s.extract 1 s.size).size ≤ maxLen) := hx
 clear hx ho
 unfold maxLen at hs
 go_enter Tryz.func292, Tryz.ntmps292
 go_wp2_with (go_at_call 297; refine (below_any _ _ HX.out o HN.out).mono ?_; rintro e w ⟨rfl, rfl⟩; unfold i64R)
 go_ret2
 exact ⟨rfl, rfl⟩
def upL (l : List UInt8) : Option Int := (plainL l).bind fun n => if 9223372036854775807 < n then none else some (n : Int)
theorem Parse_plain (s : ByteArray) (w : World) (hs : s.size ≤ maxLen) (hc : s.size = 0 ∨ ∃ (h0 : 0 < s.size) (c : Int), ((s[0]'h0).toNat : Int) = c ∧ (c == 45) = false) (o : Option Int) (ho : upL (lst s) = o) :
  Calls Tryz.prog 292 #[.string s] w fun e w' => e = .returned (i64R o) ∧ w' = w := by
 have HS : Hid (s.size ≤ maxLen) := hs
 unfold maxLen at hs
 unfold upL at ho
 have main : ∀ (p : Option Nat), plainL (lst s) = p → (p = none ∧ none = o ∨ ∃ n : Nat, p = some n ∧ n < 18446744073709551616 ∧ ((9223372036854775807 : Int) < n ∧ none = o ∨ ¬ (9223372036854775807 : Int) < n ∧ some (n : Int) = o)) := by
  intro p hp
  cases p with
  | none => rw [hp] at ho; exact .inl ⟨rfl, ho⟩
  | some n =>
   rw [hp] at ho
   have ho' : (if 9223372036854775807 < n then none else some (n : Int)) = o := ho
   refine .inr ⟨n, rfl, plainL_lt hp, ?_⟩
   split at ho'
   ·exact .inl ⟨by omega, ho'⟩
   ·exact .inr ⟨by omega, ho'⟩
 obtain ⟨p, hp⟩ : ∃ p, plainL (lst s) = p := ⟨_, rfl⟩
 have HP : Hid (plainL (lst s) = p) := hp
 have hm := main p hp
 clear main ho hp
 rcases hc with hc | ⟨h0, c, hc, hq⟩
 ·rcases hm with ⟨rfl, hn⟩ | ⟨n, rfl, hlt, ⟨h, hn⟩ | ⟨h, hn⟩⟩
  ·have HN : Hid (none = o) := hn
   clear hn
   go_enter Tryz.func292, Tryz.ntmps292
   go_wp2_with (go_at_call 298; refine (Cf s _ HS.out none HP.out).mono ?_; rintro e w ⟨rfl, rfl⟩; dsimp only [u64R, Option.getD_none, Option.isSome_none])
   go_ret2
   exact ⟨by rw [← HN.out]; rfl, rfl⟩
  ·have HN : Hid (none = o) := hn
   clear hn
   go_enter Tryz.func292, Tryz.ntmps292
   go_wp2_with (go_at_call 298; refine (Cf s _ HS.out (some n) HP.out).mono ?_; rintro e w ⟨rfl, rfl⟩; dsimp only [u64R, Option.getD_some, Option.isSome_some])
   go_ret2
   exact ⟨by rw [← HN.out]; rfl, rfl⟩
  ·have HN : Hid (some (n : Int) = o) := hn
   clear hn
   go_enter Tryz.func292, Tryz.ntmps292
   go_wp2_with (go_at_call 298; refine (Cf s _ HS.out (some n) HP.out).mono ?_; rintro e w ⟨rfl, rfl⟩; dsimp only [u64R, Option.getD_some, Option.isSome_some])
   go_ret2
   exact ⟨by rw [← HN.out]; rfl, rfl⟩
 ·rcases hm with ⟨rfl, hn⟩ | ⟨n, rfl, hlt, ⟨h, hn⟩ | ⟨h, hn⟩⟩
  ·have HN : Hid (none = o) := hn
   clear hn
   go_enter Tryz.func292, Tryz.ntmps292
   go_wp2_with (go_at_call 298; refine (Cf s _ HS.out none HP.out).mono ?_; rintro e w ⟨rfl, rfl⟩; dsimp only [u64R, Option.getD_none, Option.isSome_none])
   go_ret2
   exact ⟨by rw [← HN.out]; rfl, rfl⟩
  ·have HN : Hid (none = o) := hn
   clear hn
   go_enter Tryz.func292, Tryz.ntmps292
   go_wp2_with (go_at_call 298; refine (Cf s _ HS.out (some n) HP.out).mono ?_; rintro e w ⟨rfl, rfl⟩; dsimp only [u64R, Option.getD_some, Option.isSome_some])
   go_ret2
   exact ⟨by rw [← HN.out]; rfl, rfl⟩
  ·have HN : Hid (some (n : Int) = o) := hn
   clear hn
   go_enter Tryz.func292, Tryz.ntmps292
   go_wp2_with (go_at_call 298; refine (Cf s _ HS.out (some n) HP.out).mono ?_; rintro e w ⟨rfl, rfl⟩; dsimp only [u64R, Option.getD_some, Option.isSome_some])
   go_ret2
   exact ⟨by rw [← HN.out]; rfl, rfl⟩
theorem Parse_any (s : ByteArray) (w : World) (hs : s.size ≤ maxLen) (o : Option Int) (ho : B1 (lst s) = o) :
  Calls Tryz.prog 292 #[.string s] w fun e w' => e = .returned (i64R o) ∧ w' = w := by
 unfold B1 at ho
 by_cases h0 : 0 < s.size
 ·have hh := head_at s h0
  by_cases hc : ((s[0]'h0).toNat : Int) = 45
  ·rw [if_pos (by rw [hh, (byte_eq hc 45 (by omega)).2 rfl]; rfl)] at ho
   exact Parse_minus s w hs h0 hc o ho
  ·rw [if_neg (by
    intro h2
    rw [hh] at h2
    exact hc ((byte_eq rfl 45 (by omega)).1 (Option.some.inj h2)))] at ho
   exact Parse_plain s w hs (.inr ⟨h0, _, rfl, by simpa using hc⟩) o ho
 ·have hz : s.size = 0 := by omega
  have hl : lst s = [] := by
   have : (lst s).length = 0 := by rw [Array.length_toList]; exact hz
   exact List.length_eq_zero_iff.1 this
  rw [if_neg (by rw [hl]; simp)] at ho
  exact Parse_plain s w hs (.inl hz) o ho
end Go.Proofs.YtmjeljldmmkcpaaGreat
