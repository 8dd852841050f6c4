/-
  Entries over rows of bytes: body, back, what is read forth and back; pure.
  The program's Encode: encodeBack, encodeNumber, encodeBody, Encode, Size.
  The document's own Encode: body, Encode, Bytes.
-/
import Derived.Test.YtkohjejfkbaffaaGreatG1
namespace Go.Proofs.YtkohjejfkbaffaaGreat

/-- The k lowest bytes of a number, the highest first. -/
def be : Nat → Nat → List UInt8
  | 0, _ => []
  | k + 1, u => UInt8.ofNat (u / 2 ^ (8 * k)) :: be k u
/-- A row of bytes as a number. -/
def val (v : Nat) : List UInt8 → Nat
  | [] => v
  | b :: r => val (v * 256 + b.toNat) r
/-- A number of 64 bits with its sign. -/
def sgn (u : Nat) : Int := if u < 9223372036854775808 then (u : Int) else (u : Int) - 18446744073709551616
/-- ... and back. -/
def uns (n : Int) : Nat := (n % 18446744073709551616).toNat

theorem be_len (u : Nat) : ∀ k, (be k u).length = k
  | 0 => rfl
  | k + 1 => by rw [be, List.length_cons, be_len u k]
theorem val_be (u : Nat) : ∀ (k v : Nat), val v (be k u) = v * 2 ^ (8 * k) + u % 2 ^ (8 * k)
  | 0, v => by simp [be, val, Nat.mod_one]
  | k + 1, v => by
    rw [be, val, val_be u k, UInt8.toNat_ofNat']
    have h1 : (2 : Nat) ^ (8 * (k + 1)) = 2 ^ (8 * k) * 256 := by rw [show 8 * (k + 1) = 8 * k + 8 by omega, Nat.pow_add]
    rw [h1, Nat.mod_mul, Nat.add_mul]
    have : v * 256 * 2 ^ (8 * k) = v * (2 ^ (8 * k) * 256) := by rw [Nat.mul_assoc, Nat.mul_comm 256]
    rw [this, Nat.mul_comm (2 ^ (8 * k)) (u / 2 ^ (8 * k) % 256)]
    show v * (2 ^ (8 * k) * 256) + u / 2 ^ (8 * k) % 256 * 2 ^ (8 * k) + u % 2 ^ (8 * k) = _
    omega
theorem val_lt : ∀ (l : List UInt8) (v : Nat), val v l < (v + 1) * 256 ^ l.length
  | [], v => by simp [val]
  | b :: r, v => by
    have h := val_lt r (v * 256 + b.toNat)
    have hb := b.toNat_lt
    rw [val, List.length_cons, Nat.pow_succ]
    have : (v * 256 + b.toNat + 1) * 256 ^ r.length ≤ ((v + 1) * 256) * 256 ^ r.length := Nat.mul_le_mul_right _ (by omega)
    have e : (v + 1) * 256 * 256 ^ r.length = (v + 1) * (256 ^ r.length * 256) := by rw [Nat.mul_assoc, Nat.mul_comm 256]
    omega
theorem val_inj : ∀ (l r : List UInt8) (v w : Nat), l.length = r.length → val v l = val w r → v = w ∧ l = r
  | [], [], v, w, _, h => ⟨h, rfl⟩
  | x :: l, y :: r, v, w, hl, h => by
    obtain ⟨h1, h2⟩ := val_inj l r _ _ (by simpa using hl) h
    have := x.toNat_lt
    have := y.toNat_lt
    have h3 : x.toNat = y.toNat := by omega
    refine ⟨by omega, ?_⟩
    rw [h2, UInt8.toNat_inj.1 h3]
theorem be_val (l : List UInt8) (h : l.length = 8) : be 8 (val 0 l) = l := by
  have h1 := val_be (val 0 l) 8 0
  have h2 := val_lt l 0
  rw [h] at h2
  rw [Nat.mod_eq_of_lt (by simpa using h2)] at h1
  exact (val_inj _ l 0 0 (by rw [be_len, h]) (by omega)).2
theorem sgn_uns {n : Int} (h1 : -9223372036854775808 ≤ n) (h2 : n < 9223372036854775808) : sgn (uns n) = n := by unfold sgn uns; split <;> omega
theorem uns_sgn {u : Nat} (h : u < 18446744073709551616) : uns (sgn u) = u := by unfold sgn uns; split <;> omega
theorem uns_lt (n : Int) : uns n < 18446744073709551616 := by unfold uns; omega
theorem sgn_in {u : Nat} (h : u < 18446744073709551616) : -9223372036854775808 ≤ sgn u ∧ sgn u < 9223372036854775808 := by unfold sgn; split <;> omega
theorem be_mod (u : Nat) : be 8 u = be 8 (u % 18446744073709551616) := by
  have h1 := val_be u 8 0
  have h2 := val_be (u % 18446744073709551616) 8 0
  refine (val_inj _ _ 0 0 (by rw [be_len, be_len]) ?_).2
  rw [h1, h2]; omega
theorem val8_be (n : Int) : val 0 (be 8 (uns n)) = uns n := by
  rw [val_be]; have := uns_lt n; omega

/-- P4.1: the body of a text. -/
def body (l : List UInt8) : List UInt8 :=
  match parseL l with
  | some n => if 0 ≤ n ∧ n ≤ 127 then [UInt8.ofNat n.toNat] else 241 :: be 8 (uns n)
  | none => if l.length ≤ 63 then UInt8.ofNat (128 + l.length) :: l else 224 :: UInt8.ofNat (l.length / 256) :: UInt8.ofNat l.length :: l
def back (n : Nat) : List UInt8 := if n < 128 then [UInt8.ofNat n] else [UInt8.ofNat (n / 128), UInt8.ofNat (128 + n % 128)]
def enc (l : List UInt8) : List UInt8 := body l ++ back (body l).length

theorem body_small {l : List UInt8} {n : Int} (h : parseL l = some n) (h1 : 0 ≤ n ∧ n ≤ 127) : body l = [UInt8.ofNat n.toNat] := by unfold body; rw [h]; simp only [h1, and_self, if_true]
theorem body_wide {l : List UInt8} {n : Int} (h : parseL l = some n) (h1 : ¬ (0 ≤ n ∧ n ≤ 127)) : body l = 241 :: be 8 (uns n) := by unfold body; rw [h]; simp only [h1, if_false]
theorem body_short {l : List UInt8} (h : parseL l = none) (h1 : l.length ≤ 63) : body l = UInt8.ofNat (128 + l.length) :: l := by unfold body; rw [h]; simp only [h1, if_true]
theorem body_long {l : List UInt8} (h : parseL l = none) (h1 : ¬ l.length ≤ 63) : body l = 224 :: UInt8.ofNat (l.length / 256) :: UInt8.ofNat l.length :: l := by unfold body; rw [h]; simp only [h1, if_false]

/-- The four ways of a body. -/
theorem body_ways (l : List UInt8) :
    (∃ n, parseL l = some n ∧ (0 ≤ n ∧ n ≤ 127) ∧ body l = [UInt8.ofNat n.toNat]) ∨ (∃ n, parseL l = some n ∧ ¬ (0 ≤ n ∧ n ≤ 127) ∧ body l = 241 :: be 8 (uns n)) ∨
    (parseL l = none ∧ l.length ≤ 63 ∧ body l = UInt8.ofNat (128 + l.length) :: l) ∨ (parseL l = none ∧ ¬ l.length ≤ 63 ∧ body l = 224 :: UInt8.ofNat (l.length / 256) :: UInt8.ofNat l.length :: l) := by
  cases h : parseL l with
  | some n =>
    by_cases h1 : 0 ≤ n ∧ n ≤ 127
    · exact .inl ⟨n, rfl, h1, body_small h h1⟩
    · exact .inr (.inl ⟨n, rfl, h1, body_wide h h1⟩)
  | none =>
    by_cases h1 : l.length ≤ 63
    · exact .inr (.inr (.inl ⟨rfl, h1, body_short h h1⟩))
    · exact .inr (.inr (.inr ⟨rfl, h1, body_long h h1⟩))
theorem body_len (l : List UInt8) : 1 ≤ (body l).length ∧ (body l).length ≤ l.length + 9 := by
  rcases body_ways l with ⟨n, h, h1, e⟩ | ⟨n, h, h1, e⟩ | ⟨h, h1, e⟩ | ⟨h, h1, e⟩ <;> rw [e]
  · simp
  · rw [List.length_cons, be_len]; omega
  · simp
  · simp
theorem body_len3 {l : List UInt8} (h0 : parseL l = none) : (body l).length ≤ l.length + 3 := by
  rcases body_ways l with ⟨n, h, h1, e⟩ | ⟨n, h, h1, e⟩ | ⟨h, h1, e⟩ | ⟨h, h1, e⟩
  · rw [h0] at h; cases h
  · rw [h0] at h; cases h
  · rw [e]; simp
  · rw [e]; simp
theorem back_len (n : Nat) : (back n).length = if n < 128 then 1 else 2 := by unfold back; split <;> rfl
theorem enc_len (l : List UInt8) : 2 ≤ (enc l).length ∧ (enc l).length ≤ l.length + 11 := by
  have := body_len l
  have h := back_len (body l).length
  unfold enc
  rw [List.length_append]
  split at h <;> omega

/-- So many bytes of a row, if it has them. -/
def tk (n : Nat) (r : List UInt8) : Option (List UInt8) := if r.length < n then none else some (r.take n)
/-- The text that a body at the beginning would be. -/
def text (b : List UInt8) : Option (List UInt8) :=
  match b with
  | [] => none
  | x :: r =>
    if x.toNat < 128 then some (fmtL x.toNat)
    else if x.toNat ≤ 191 then tk (x.toNat - 128) r
    else if x.toNat = 224 ∧ 2 ≤ r.length then tk ((r.getD 0 0).toNat * 256 + (r.getD 1 0).toNat) (r.drop 2)
    else if x.toNat = 241 ∧ 8 ≤ r.length then some (fmtL (sgn (val 0 (r.take 8))))
    else none
/-- The text, and how long the body is. -/
def dtext (b : List UInt8) (h n : Nat) : Option (List UInt8 × Nat) :=
  if b.length < h + n then none else if (parseL ((b.drop h).take n)).isSome then none else some ((b.drop h).take n, h + n)
def dbody (b : List UInt8) : Option (List UInt8 × Nat) :=
  match b with
  | [] => none
  | x :: r =>
    if x.toNat < 128 then some (fmtL x.toNat, 1)
    else if x.toNat = 241 then
      if r.length < 8 then none
      else if 0 ≤ sgn (val 0 (r.take 8)) ∧ sgn (val 0 (r.take 8)) < 128 then none else some (fmtL (sgn (val 0 (r.take 8))), 9)
    else if x.toNat = 224 then
      if r.length < 2 then none
      else if (r.getD 0 0).toNat * 256 + (r.getD 1 0).toNat ≤ 63 ∨ 4096 < (r.getD 0 0).toNat * 256 + (r.getD 1 0).toNat then none
      else dtext b 3 ((r.getD 0 0).toNat * 256 + (r.getD 1 0).toNat)
    else if x.toNat ≤ 191 then dtext b 1 (x.toNat - 128)
    else none
/-- Does a row begin so? -/
def pre (p l : List UInt8) : Bool := decide (l.take p.length = p)
theorem pre_append (p r : List UInt8) : pre p (p ++ r) = true := by unfold pre; simp
theorem pre_ex {p l : List UInt8} (h : pre p l = true) : ∃ r, l = p ++ r := by
  unfold pre at h
  have h := of_decide_eq_true h
  exact ⟨l.drop p.length, by conv => lhs; rw [← List.take_append_drop p.length l, h]⟩
theorem pre_left (p q r : List UInt8) : pre (p ++ q) (p ++ r) = pre q r := by
  unfold pre
  rw [List.length_append, List.take_append, List.take_of_length_le (by omega), Nat.add_sub_cancel_left, Bool.eq_iff_iff]
  simp

/-- P4.2 as the program goes, at the beginning of a row: the text, and how long its entry is. -/
def dec1 (b : List UInt8) : Option (List UInt8 × Nat) :=
  match dbody b with
  | none => none
  | some (s, k) => if pre (back k) (b.drop k) then some (s, k + (back k).length) else none
/-- ... as the document goes. -/
def dec2 (b : List UInt8) : Option (List UInt8 × Nat) :=
  match text b with
  | none => none
  | some s => if 4096 < s.length then none else if pre (enc s) b then some (s, (enc s).length) else none

theorem text_cons (x : UInt8) (r : List UInt8) : text (x :: r) =
    if x.toNat < 128 then some (fmtL x.toNat)
    else if x.toNat ≤ 191 then tk (x.toNat - 128) r
    else if x.toNat = 224 ∧ 2 ≤ r.length then tk ((r.getD 0 0).toNat * 256 + (r.getD 1 0).toNat) (r.drop 2)
    else if x.toNat = 241 ∧ 8 ≤ r.length then some (fmtL (sgn (val 0 (r.take 8))))
    else none := rfl
theorem dbody_cons (x : UInt8) (r : List UInt8) : dbody (x :: r) =
    if x.toNat < 128 then some (fmtL x.toNat, 1)
    else if x.toNat = 241 then
      if r.length < 8 then none
      else if 0 ≤ sgn (val 0 (r.take 8)) ∧ sgn (val 0 (r.take 8)) < 128 then none else some (fmtL (sgn (val 0 (r.take 8))), 9)
    else if x.toNat = 224 then
      if r.length < 2 then none
      else if (r.getD 0 0).toNat * 256 + (r.getD 1 0).toNat ≤ 63 ∨ 4096 < (r.getD 0 0).toNat * 256 + (r.getD 1 0).toNat then none
      else dtext (x :: r) 3 ((r.getD 0 0).toNat * 256 + (r.getD 1 0).toNat)
    else if x.toNat ≤ 191 then dtext (x :: r) 1 (x.toNat - 128)
    else none := rfl
theorem nat_ofNat {n : Nat} (h : n < 256) : (UInt8.ofNat n).toNat = n := by rw [UInt8.toNat_ofNat']; omega
theorem parse_in {l : List UInt8} {n : Int} (h : parseL l = some n) : l = fmtL n ∧ -9223372036854775808 ≤ n ∧ n < 9223372036854775808 := parseL_some h

theorem text_body (l r : List UInt8) (hl : l.length ≤ 65535) : text (body l ++ r) = some l := by
  rcases body_ways l with ⟨n, h, h1, e⟩ | ⟨n, h, h1, e⟩ | ⟨h, h1, e⟩ | ⟨h, h1, e⟩ <;> rw [e]
  · obtain ⟨he, -, -⟩ := parse_in h
    have hx : (UInt8.ofNat n.toNat).toNat = n.toNat := nat_ofNat (by omega)
    show (if _ then _ else _) = _
    rw [hx, if_pos (by omega), show ((n.toNat : Nat) : Int) = n by omega, ← he]
  · obtain ⟨he, h2, h3⟩ := parse_in h
    have hlen : (be 8 (uns n) ++ r).length = 8 + r.length := by rw [List.length_append, be_len]
    have htk : (be 8 (uns n) ++ r).take 8 = be 8 (uns n) := by
      rw [List.take_append_of_le_length (by rw [be_len]; omega), List.take_of_length_le (by rw [be_len]; omega)]
    rw [List.cons_append, text_cons]
    rw [if_neg (by decide), if_neg (by decide), if_neg (by rintro ⟨h, -⟩; exact absurd h (by decide)), if_pos ⟨by decide, by rw [hlen]; omega⟩, htk, val8_be, sgn_uns h2 h3, ← he]
  · have hx : (UInt8.ofNat (128 + l.length)).toNat = 128 + l.length := nat_ofNat (by omega)
    show (if _ then _ else if _ then tk _ (l ++ r) else _) = _
    rw [hx, if_neg (by omega), if_pos (by omega), tk, if_neg (by rw [List.length_append]; omega), Nat.add_sub_cancel_left]
    simp
  · have hx : (UInt8.ofNat (l.length / 256)).toNat = l.length / 256 := nat_ofNat (by omega)
    have hy : (UInt8.ofNat l.length).toNat = l.length % 256 := UInt8.toNat_ofNat' ..
    rw [List.cons_append, List.cons_append, List.cons_append, text_cons, show (UInt8.ofNat (l.length / 256) :: UInt8.ofNat l.length :: (l ++ r)).getD 0 0 = UInt8.ofNat (l.length / 256) from rfl, show (UInt8.ofNat (l.length / 256) :: UInt8.ofNat l.length :: (l ++ r)).getD 1 0 = UInt8.ofNat l.length from rfl, show (UInt8.ofNat (l.length / 256) :: UInt8.ofNat l.length :: (l ++ r)).drop 2 = l ++ r from rfl]
    rw [if_neg (by decide), if_neg (by decide), if_pos ⟨by decide, by simp⟩, hx, hy, show l.length / 256 * 256 + l.length % 256 = l.length by omega, tk, if_neg (by rw [List.length_append]; omega)]
    simp

theorem dbody_body (l r : List UInt8) (hl : l.length ≤ 4096) : dbody (body l ++ r) = some (l, (body l).length) := by
  rcases body_ways l with ⟨n, h, h1, e⟩ | ⟨n, h, h1, e⟩ | ⟨h, h1, e⟩ | ⟨h, h1, e⟩ <;> rw [e]
  · obtain ⟨he, -, -⟩ := parse_in h
    have hx : (UInt8.ofNat n.toNat).toNat = n.toNat := nat_ofNat (by omega)
    show (if _ then _ else _) = _
    rw [hx, if_pos (by omega), show ((n.toNat : Nat) : Int) = n by omega, ← he]; rfl
  · obtain ⟨he, h2, h3⟩ := parse_in h
    have hlen : (be 8 (uns n) ++ r).length = 8 + r.length := by rw [List.length_append, be_len]
    have htk : (be 8 (uns n) ++ r).take 8 = be 8 (uns n) := by
      rw [List.take_append_of_le_length (by rw [be_len]; omega), List.take_of_length_le (by rw [be_len]; omega)]
    rw [List.cons_append, dbody_cons]
    rw [if_neg (by decide), if_pos (by decide), if_neg (by rw [hlen]; omega), htk, val8_be, sgn_uns h2 h3, if_neg (by omega), ← he, List.length_cons, be_len]
  · have hx : (UInt8.ofNat (128 + l.length)).toNat = 128 + l.length := nat_ofNat (by omega)
    show (if _ then _ else if _ then _ else if _ then _ else if _ then dtext (UInt8.ofNat (128 + l.length) :: (l ++ r)) 1 _ else _) = _
    rw [hx, if_neg (by omega), if_neg (by omega), if_neg (by omega), if_pos (by omega), dtext, if_neg (by simp; omega), Nat.add_sub_cancel_left]
    have e2 : ((UInt8.ofNat (128 + l.length) :: (l ++ r)).drop 1).take l.length = l := by simp
    rw [e2, h, List.length_cons, Nat.add_comm]; rfl
  · have hx : (UInt8.ofNat (l.length / 256)).toNat = l.length / 256 := nat_ofNat (by omega)
    have hy : (UInt8.ofNat l.length).toNat = l.length % 256 := UInt8.toNat_ofNat' ..
    rw [List.cons_append, List.cons_append, List.cons_append, dbody_cons, show (UInt8.ofNat (l.length / 256) :: UInt8.ofNat l.length :: (l ++ r)).getD 0 0 = UInt8.ofNat (l.length / 256) from rfl, show (UInt8.ofNat (l.length / 256) :: UInt8.ofNat l.length :: (l ++ r)).getD 1 0 = UInt8.ofNat l.length from rfl]
    rw [if_neg (by decide), if_neg (by decide), if_pos (by decide), if_neg (by simp), hx, hy, show l.length / 256 * 256 + l.length % 256 = l.length by omega, if_neg (by omega), dtext, if_neg (by simp; omega)]
    have e2 : ((224 :: UInt8.ofNat (l.length / 256) :: UInt8.ofNat l.length :: (l ++ r)).drop 3).take l.length = l := by simp
    rw [e2, h]
    simp only [List.length_cons, Option.isSome_none, Bool.false_eq_true, if_false, Nat.add_comm 3]

theorem byte_of {x : UInt8} {n : Nat} (h : x.toNat = n % 256) : x = UInt8.ofNat n := UInt8.toNat_inj.1 (by rw [h, UInt8.toNat_ofNat'])
theorem dtext_some {b s : List UInt8} {h n k : Nat} (hd : dtext b h n = some (s, k)) : parseL s = none ∧ s.length = n ∧ k = h + n ∧ ∃ r, b = b.take h ++ (s ++ r) := by
  unfold dtext at hd
  split at hd
  · cases hd
  · rename_i hlen
    split at hd
    · cases hd
    · rename_i hp
      have := Option.some.inj hd
      obtain ⟨e1, e2⟩ := Prod.mk.inj this
      subst e1 e2
      refine ⟨by simpa using hp, by rw [List.length_take, List.length_drop]; omega, rfl, (b.drop h).drop n, ?_⟩
      rw [List.take_append_drop, List.take_append_drop]

theorem dbody_some {b s : List UInt8} {k : Nat} (hd : dbody b = some (s, k)) : s.length ≤ 4096 ∧ k = (body s).length ∧ ∃ r, b = body s ++ r := by
  cases b with
  | nil => cases hd
  | cons x r =>
    have hxl := x.toNat_lt
    unfold dbody at hd
    dsimp only at hd
    split at hd
    · rename_i h1
      obtain ⟨e1, e2⟩ := Prod.mk.inj (Option.some.inj hd)
      subst e1 e2
      have hp : parseL (fmtL x.toNat) = some (x.toNat : Int) := parseL_fmtL (by omega) (by omega)
      have hb := body_small hp (by omega)
      have hx : UInt8.ofNat ((x.toNat : Int)).toNat = x := UInt8.toNat_inj.1 (by rw [UInt8.toNat_ofNat']; omega)
      rw [hx] at hb
      have := fmtL_len (n := (x.toNat : Int)) (by omega) (by omega)
      exact ⟨by omega, by rw [hb]; rfl, r, by rw [hb]; rfl⟩
    · split at hd
      · rename_i h1 h2
        split at hd
        · cases hd
        · rename_i hlen
          split at hd
          · cases hd
          · rename_i hs
            obtain ⟨e1, e2⟩ := Prod.mk.inj (Option.some.inj hd)
            have hl8 : (r.take 8).length = 8 := by rw [List.length_take]; omega
            have hv : val 0 (r.take 8) < 18446744073709551616 := by have := val_lt (r.take 8) 0; rw [hl8] at this; omega
            have hin := sgn_in hv
            have hp := parseL_fmtL hin.1 hin.2
            have hb := body_wide hp (by omega)
            rw [uns_sgn hv, be_val _ hl8] at hb
            subst e1 e2
            have := fmtL_len hin.1 hin.2
            have hx : x = 241 := UInt8.toNat_inj.1 h2
            refine ⟨by omega, by rw [hb, List.length_cons, hl8], r.drop 8, ?_⟩
            rw [hb, List.cons_append, List.take_append_drop, hx]
      · split at hd
        · rename_i h1 h2 h3
          split at hd
          · cases hd
          · rename_i hlen
            split at hd
            · cases hd
            · rename_i hn
              obtain ⟨y, z, r', rfl⟩ : ∃ y z r', r = y :: z :: r' := by
                cases r with
                | nil => exact absurd (show ([] : List UInt8).length < 2 by decide) hlen
                | cons y r1 =>
                  cases r1 with
                  | nil => exact absurd (show [y].length < 2 from Nat.lt_succ_self 1) hlen
                  | cons z r' => exact ⟨y, z, r', rfl⟩
              obtain ⟨h4, h5, h6, q, h7⟩ := dtext_some hd
              have hy := y.toNat_lt
              have hz := z.toNat_lt
              change s.length = y.toNat * 256 + z.toNat at h5
              change ¬ (y.toNat * 256 + z.toNat ≤ 63 ∨ 4096 < y.toNat * 256 + z.toNat) at hn
              change k = 3 + (y.toNat * 256 + z.toNat) at h6
              have hb := body_long h4 (by omega)
              have hx : x = 224 := UInt8.toNat_inj.1 h3
              rw [h5, ← byte_of (x := y) (by omega), ← byte_of (x := z) (by omega), ← hx] at hb
              refine ⟨by omega, by rw [hb]; simp only [List.length_cons]; omega, q, ?_⟩
              rw [hb, h7]; rfl
        · split at hd
          · rename_i h1 h2 h3 h4
            obtain ⟨h5, h6, h7, q, h8⟩ := dtext_some hd
            have hb := body_short h5 (by omega)
            rw [h6, show 128 + (x.toNat - 128) = x.toNat by omega, ← byte_of (x := x) (by omega)] at hb
            refine ⟨by omega, by rw [hb, List.length_cons]; omega, q, ?_⟩
            rw [hb, h8]; rfl
          · cases hd

/-- THE PROGRAM AND THE DOCUMENT AGREE. -/
theorem dec_same (b : List UInt8) : dec1 b = dec2 b := by
  cases h : dbody b with
  | some p =>
    obtain ⟨s, k⟩ := p
    obtain ⟨h1, h2, r, h3⟩ := dbody_some h
    have ht : text b = some s := by rw [h3]; exact text_body s r (by omega)
    unfold dec1 dec2
    rw [h, ht]
    dsimp only
    rw [if_neg (show ¬ 4096 < s.length by omega), h3, h2, List.drop_left]
    unfold enc
    rw [pre_left, List.length_append]
  | none =>
    unfold dec1 dec2
    rw [h]
    dsimp only
    cases ht : text b with
    | none => rfl
    | some s =>
      dsimp only
      split
      · rfl
      · rename_i hl
        split
        · rename_i hp
          obtain ⟨r, hr⟩ := pre_ex hp
          unfold enc at hr
          rw [List.append_assoc] at hr
          rw [hr, dbody_body s _ (by omega)] at h
          cases h
        · rfl

theorem dec_enc (l r : List UInt8) (hl : l.length ≤ 4096) : dec1 (enc l ++ r) = some (l, (enc l).length) := by
  unfold dec1 enc
  rw [List.append_assoc, dbody_body l _ hl]
  dsimp only
  rw [List.drop_left, pre_append, List.length_append]; rfl
theorem dec1_len {b s : List UInt8} {k : Nat} (h : dec1 b = some (s, k)) : k ≤ b.length ∧ s.length ≤ 4096 := by
  rw [dec_same] at h
  unfold dec2 at h
  split at h
  · cases h
  · split at h
    · cases h
    · split at h
      · rename_i h1 hp
        obtain ⟨r, hr⟩ := pre_ex hp
        obtain ⟨e1, e2⟩ := Prod.mk.inj (Option.some.inj h)
        subst e1 e2
        rw [hr, List.length_append]
        omega
      · cases h

/-- Decode at a place. -/
def decAt (b : List UInt8) (at' : Int) : Option (List UInt8 × Nat) :=
  if at' < 0 ∨ (b.length : Int) ≤ at' then none else (dec1 (b.drop at'.toNat)).map fun p => (p.1, at'.toNat + p.2)
/-- Where the entry that ends at the row's end begins by what its last bytes say. -/
def begn (b : List UInt8) : Option Int :=
  if (b.getD (b.length - 1) 0).toNat < 128 then some ((b.length : Int) - 1 - (b.getD (b.length - 1) 0).toNat)
  else if b.length < 2 then none
  else some ((b.length : Int) - 2 - (128 * (b.getD (b.length - 2) 0).toNat + (b.getD (b.length - 1) 0).toNat - 128))
/-- Back at a place. -/
def bkAt (b : List UInt8) (e : Int) : Option Int :=
  if e ≤ 0 ∨ (b.length : Int) < e then none
  else match begn (b.take e.toNat) with
    | none => none
    | some k => match decAt b k with
      | none => none
      | some p => if (p.2 : Int) = e then some k else none

theorem decAt_enc (p l r : List UInt8) (hl : l.length ≤ 4096) : decAt (p ++ (enc l ++ r)) p.length = some (l, p.length + (enc l).length) := by
  have := (enc_len l).1
  unfold decAt
  rw [if_neg (by simp only [List.length_append]; omega), show ((p.length : Int)).toNat = p.length by omega, List.drop_left, dec_enc l r hl]; rfl

theorem begn_enc (p l : List UInt8) (hl : l.length ≤ 4096) : begn (p ++ enc l) = some (p.length : Int) := by
  have hb := body_len l
  obtain ⟨m, hm⟩ : ∃ m, (body l).length = m := ⟨_, rfl⟩
  have he : p ++ enc l = p ++ body l ++ back m := by unfold enc; rw [hm, List.append_assoc]
  have hq : (p ++ body l).length = p.length + m := by rw [List.length_append, hm]
  rw [he]
  generalize p ++ body l = q at hq
  rw [hm] at hb
  unfold back
  split
  · rename_i h
    have h1 : (q ++ [UInt8.ofNat m]).length = p.length + m + 1 := by simp [hq]
    have h2 : (q ++ [UInt8.ofNat m]).getD (p.length + m) 0 = UInt8.ofNat m := by
      rw [List.getD_eq_getElem?_getD, ← hq, List.getElem?_append_right (Nat.le_refl _), Nat.sub_self]; rfl
    unfold begn
    rw [h1, Nat.add_sub_cancel, h2, nat_ofNat (by omega), if_pos h]
    congr 1; omega
  · rename_i h
    have h1 : (q ++ [UInt8.ofNat (m / 128), UInt8.ofNat (128 + m % 128)]).length = p.length + m + 2 := by simp [hq]
    have h2 : (q ++ [UInt8.ofNat (m / 128), UInt8.ofNat (128 + m % 128)]).getD (p.length + m + 1) 0 = UInt8.ofNat (128 + m % 128) := by
      rw [List.getD_eq_getElem?_getD, ← hq, List.getElem?_append_right (by omega), Nat.add_sub_cancel_left]; rfl
    have h3 : (q ++ [UInt8.ofNat (m / 128), UInt8.ofNat (128 + m % 128)]).getD (p.length + m) 0 = UInt8.ofNat (m / 128) := by
      rw [List.getD_eq_getElem?_getD, ← hq, List.getElem?_append_right (Nat.le_refl _), Nat.sub_self]; rfl
    unfold begn
    rw [h1, show p.length + m + 2 - 1 = p.length + m + 1 by omega, show p.length + m + 2 - 2 = p.length + m by omega, h2, h3, nat_ofNat (by omega), nat_ofNat (by omega), if_neg (by omega), if_neg (by omega)]
    congr 1; omega

theorem bkAt_enc (p l r : List UInt8) (hl : l.length ≤ 4096) : bkAt (p ++ (enc l ++ r)) ((p.length + (enc l).length : Nat) : Int) = some (p.length : Int) := by
  have := (enc_len l).1
  have h1 : (p ++ (enc l ++ r)).take (p.length + (enc l).length) = p ++ enc l := by
    rw [← List.append_assoc, List.take_append_of_le_length (by rw [List.length_append]; omega), List.take_of_length_le (by rw [List.length_append]; omega)]
  unfold bkAt
  rw [if_neg (by simp only [List.length_append]; omega), show (((p.length + (enc l).length : Nat) : Int)).toNat = p.length + (enc l).length by omega, h1, begn_enc p l hl]
  show (match decAt (p ++ (enc l ++ r)) p.length with | none => none | some q => if (q.2 : Int) = _ then some _ else none) = _
  rw [decAt_enc p l r hl]
  show (if _ then _ else _) = _
  rw [if_pos rfl]
end Go.Proofs.YtkohjejfkbaffaaGreat

namespace Go.Proofs.YtkohjejfkbaffaaGreat
open Go.RowKit Go.PlainAid

/-- What a call that makes a row of bytes answers. -/
def Makes (w : World) (l : List UInt8) (e : Ending) (w' : World) : Prop :=
  Below w.heap.size w w' ∧ ∃ a n c, e = .returned (.slice a n c) ∧ Own w' w.heap.size a n c l

theorem encodeBack_any (n : Nat) (w : World) (hn : n < 32768) : Calls Tryz.prog 88 #[.int .i64 n] w fun e w' => Makes w (back n) e w' := by
  by_cases h : n < 128
  · have hO := Own.made w (back n) w.heap.size 1 (by rw [back_len, if_pos h]) (Nat.le_refl _) (by decide)
    rw [show cells (back n) = [.int .u8 (n : Int)] by unfold back; rw [if_pos h]; simp [cells]; omega] at hO
    have HO : Hid (Own (w.alloc (.cells #[.int .u8 (n : Int)] 5)) w.heap.size (some ⟨w.heap.size, 0, none⟩) 1 1 (back n)) := hO
    clear hO
    obtain ⟨N, hN⟩ : ∃ N : Int, (n : Int) = N := ⟨_, rfl⟩
    have h1 : 0 ≤ N := by omega
    have h2 : N < 128 := by omega
    rw [hN] at HO ⊢
    clear hN h hn
    go_enter Tryz.func88, Tryz.ntmps88
    go_wp2
    go_ret
    exact ⟨(Below.refl _ _).alloc (Nat.le_refl _) _, _, _, _, rfl, HO.out⟩
  · have hO := Own.made w (back n) w.heap.size 2 (by rw [back_len, if_neg h]) (Nat.le_refl _) (by decide)
    rw [show cells (back n) = [.int .u8 ((n : Int) / 128), .int .u8 (128 + (n : Int) % 128)] by unfold back; rw [if_neg h]; simp [cells]; omega] at hO
    have HO : Hid (Own (w.alloc (.cells #[.int .u8 ((n : Int) / 128), .int .u8 (128 + (n : Int) % 128)] 5)) w.heap.size (some ⟨w.heap.size, 0, none⟩) 2 2 (back n)) := hO
    clear hO
    obtain ⟨N, hN⟩ : ∃ N : Int, (n : Int) = N := ⟨_, rfl⟩
    have h1 : 128 ≤ N := by omega
    have h2 : N < 32768 := by omega
    rw [hN] at HO ⊢
    clear hN h hn
    go_enter Tryz.func88, Tryz.ntmps88
    go_wp2
    go_ret
    exact ⟨(Below.refl _ _).alloc (Nat.le_refl _) _, _, _, _, rfl, HO.out⟩

theorem Rd.one (w : World) (x : Int) (b : UInt8) (h : (b.toNat : Int) = x) : Rd (w.alloc (.cells #[.int .u8 x] 5)) (some ⟨w.heap.size, 0, none⟩) 1 1 [b] := by
  have := (Own.made w [b] w.heap.size 1 rfl (Nat.le_refl _) (by decide)).rd
  rw [show cells [b] = [.int .u8 x] by simp [cells, h]] at this
  exact this
theorem alloc_below (w : World) (o : Obj) : Below w.heap.size w (w.alloc o) := (Below.refl _ _).alloc (Nat.le_refl _) o

theorem wrap_uns (n : Int) : IntKind.u64.wrap n = (uns n : Int) := by unfold uns; simp [IntKind.wrap, IntKind.signed, IntKind.bits]; omega

theorem isSmall_any (n : Int) (w : World) : Calls Tryz.prog 136 #[.int .i64 n] w fun e w' => e = .returned (.bool (decide (0 ≤ n ∧ n < 128))) ∧ w' = w := by
  by_cases h0 : 0 ≤ n
  · by_cases h1 : n < 128
    · have HD : Hid (decide (0 ≤ n ∧ n < 128) = true) := by show _ = _; simp; omega
      rw [HD.out]
      go_enter Tryz.func136, Tryz.ntmps136
      go_wp2
      go_ret
      exact ⟨rfl, rfl⟩
    · have HD : Hid (decide (0 ≤ n ∧ n < 128) = false) := by show _ = _; simp; omega
      rw [HD.out]
      go_enter Tryz.func136, Tryz.ntmps136
      go_wp2
      go_ret
      exact ⟨rfl, rfl⟩
  · have HD : Hid (decide (0 ≤ n ∧ n < 128) = false) := by show _ = _; simp; omega
    rw [HD.out]
    go_enter Tryz.func136, Tryz.ntmps136
    go_wp2
    go_ret
    exact ⟨rfl, rfl⟩

set_option maxHeartbeats 1000000 in
theorem encodeNumber_any (n : Int) (w : World) (h1 : -9223372036854775808 ≤ n) (h2 : n < 9223372036854775808) :
    Calls Tryz.prog 138 #[.int .i64 n] w fun e w' => Makes w (if 0 ≤ n ∧ n ≤ 127 then [UInt8.ofNat n.toNat] else 241 :: be 8 (uns n)) e w' := by
  have HS := fun w => isSmall_any n w
  by_cases h : 0 ≤ n ∧ n ≤ 127
  · rw [if_pos h]
    have hO := Own.made w [UInt8.ofNat n.toNat] w.heap.size 1 rfl (Nat.le_refl _) (by decide)
    rw [show cells [UInt8.ofNat n.toNat] = [.int .u8 n] by simp [cells]; omega] at hO
    have HO : Hid (Own (w.alloc (.cells #[.int .u8 n] 5)) w.heap.size (some ⟨w.heap.size, 0, none⟩) 1 1 [UInt8.ofNat n.toNat]) := hO
    clear hO
    have hq : decide (0 ≤ n ∧ n < 128) = true := by simp; omega
    rw [hq] at HS
    clear hq
    obtain ⟨h3, h4⟩ := h
    go_enter Tryz.func138, Tryz.ntmps138
    go_wp2_with fail
    refine (HS _).mono ?_
    rintro e w ⟨rfl, rfl⟩
    go_wp2
    go_ret
    exact ⟨(Below.refl _ _).alloc (Nat.le_refl _) _, _, _, _, rfl, HO.out⟩
  · rw [if_neg h]
    have hq : decide (0 ≤ n ∧ n < 128) = false := by simp; omega
    rw [hq] at HS
    clear hq h
    have hO := Own.made w [241] w.heap.size 1 rfl (Nat.le_refl _) (by decide)
    rw [show cells [241] = [.int .u8 241] from rfl] at hO
    obtain ⟨wn, hwn⟩ : ∃ wn, w.alloc (.cells #[.int .u8 241] 5) = wn := ⟨_, rfl⟩
    have HO : Hid (Own wn w.heap.size (some ⟨w.heap.size, 0, none⟩) 1 1 [241]) := by show Own _ _ _ _ _ _; rw [← hwn]; exact hO
    have HB : Hid (Below w.heap.size w wn) := by show Below _ _ _; rw [← hwn]; exact (Below.refl _ _).alloc (Nat.le_refl _) _
    clear hO
    go_enter Tryz.func138, Tryz.ntmps138
    go_wp2_with fail
    refine (HS _).mono ?_
    rintro e w ⟨rfl, rfl⟩
    go_wp2
    go_loopg [3, 4] 8 (fun g bv sv wr => ∃ (a : Option Addr) (m c : Nat) (l : List UInt8), g ≤ 8 ∧ bv = .slice a m c ∧ sv = .int .i64 (8 * (g : Int) - 8) ∧ Hid (Own wr w.heap.size a m c l) ∧ Hid (l ++ be g (uns n) = 241 :: be 8 (uns n)) ∧ Hid (Below w.heap.size w wr))
    case atStart => exact ⟨_, _, _, [241], by omega, rfl, rfl, HO, rfl, HB⟩
    case round =>
      obtain ⟨a, m, c, l, hg, rfl, rfl, HO, HL, HB⟩ := hrel
      cases gk with
      | zero =>
        have HE : Hid (l = 241 :: be 8 (uns n)) := by
          show _ = _
          have := HL.out
          rwa [be, List.append_nil] at this
        go_wp2
        go_ret
        exact ⟨HB.out, _, _, _, rfl, by rw [← HE.out]; exact HO.out⟩
      | succ k =>
        rw [show 8 * ((k + 1 : Nat) : Int) - 8 = 8 * (k : Int) by omega]
        have hm := HO.out.len
        have hm2 : l.length + (k + 1) = 9 := by
          have := congrArg List.length HL.out
          rw [List.length_append, be_len, List.length_cons, be_len] at this
          omega
        have hm3 : m + 1 ≤ 140737488355328 := by omega
        have HX : ((UInt8.ofNat (uns n / 2 ^ (8 * k))).toNat : Int) = IntKind.u64.wrap n / 2 ^ (8 * k) % 256 := by
          rw [wrap_uns, UInt8.toNat_ofNat']
          have : ((2 : Int) ^ (8 * k)) = ((2 ^ (8 * k) : Nat) : Int) := by rw [Int.natCast_pow]; rfl
          rw [this, ← Int.natCast_ediv]; rfl
        have HL2 : Hid ((l ++ [UInt8.ofNat (uns n / 2 ^ (8 * k))]) ++ be k (uns n) = 241 :: be 8 (uns n)) := by
          show _ = _
          have := HL.out
          rw [be] at this
          rw [← this]; simp
        have hsz := HB.out.size
        have HM : Hid (m + 1 ≤ 140737488355328) := hm3
        clear hm hm2 hm3 HL
        go_wp2_with (at_builtin; refine append_row rfl (.tmp 15) (.tmp 21) rfl w.heap.size rfl (HO.out.keep (alloc_below wr _)) rfl (Rd.one wr _ _ HX) HM.out (Nat.le_trans hsz (alloc_below wr _).size) ?_; intro a2 n2 c2 w2 hn2 hO2 hB2; have HO2 : Hid (Own w2 w.heap.size a2 n2 c2 (l ++ [UInt8.ofNat (uns n / 2 ^ (8 * k))])) := hO2; have HB2 : Hid (Below w.heap.size w w2) := (HB.out.trans ((alloc_below wr _).mono hsz)).trans hB2; clear hn2 hO2 hB2)
        go_roundg k
        case measure => omega
        case rel => exact ⟨_, _, _, _, by omega, rfl, by go_num, HO2, HL2, HB2⟩

set_option maxRecDepth 100000 in
set_option maxHeartbeats 1000000 in
theorem encodeBody_any (s : ByteArray) (w : World) (hs : s.size ≤ 4096) : Calls Tryz.prog 127 #[.string s] w fun e w' => Makes w (body (lst s)) e w' := by
  have HP := fun w => Parse_any s w (by unfold maxLen; omega) (parseL (lst s)) rfl
  cases hp : parseL (lst s) with
  | some n =>
    rw [hp] at HP
    obtain ⟨-, h1, h2⟩ := parse_in hp
    have HN := fun w => encodeNumber_any n w h1 h2
    have e1 : (if 0 ≤ n ∧ n ≤ 127 then [UInt8.ofNat n.toNat] else 241 :: be 8 (uns n)) = body (lst s) := by unfold body; rw [hp]
    rw [e1] at HN
    clear e1 hp
    go_enter Tryz.func127, Tryz.ntmps127
    go_wp2_with fail
    refine (HP _).mono ?_
    rintro e w ⟨rfl, rfl⟩
    unfold i64R
    dsimp only [Option.getD_some, Option.isSome_some]
    go_wp2_with fail
    refine (HN _).mono ?_
    rintro e w1 ⟨hb, a, m, c, rfl, hO⟩
    have HO : Hid (Own w1 w.heap.size a m c (body (lst s))) := hO
    clear hO
    go_wp2
    go_ret
    exact ⟨hb, _, _, _, rfl, HO.out⟩
  | none =>
    rw [hp] at HP
    by_cases h : s.size ≤ 63
    · have hO := Own.made w [UInt8.ofNat (128 + s.size)] w.heap.size 1 rfl (Nat.le_refl _) (by decide)
      have HE : Hid ([UInt8.ofNat (128 + s.size)] ++ lst s = body (lst s)) := by show _ = _; rw [body_short hp h]; rfl
      rw [show cells [UInt8.ofNat (128 + s.size)] = [.int .u8 (128 + (s.size : Int))] by simp [cells]; omega] at hO
      have HO : Hid (Own (w.alloc (.cells #[.int .u8 (128 + (s.size : Int))] 5)) w.heap.size (some ⟨w.heap.size, 0, none⟩) 1 1 [UInt8.ofNat (128 + s.size)]) := hO
      have HM : Hid (1 + s.size ≤ 140737488355328) := by show _ ≤ _; omega
      clear hO hp
      go_enter Tryz.func127, Tryz.ntmps127
      go_wp2_with fail
      refine (HP _).mono ?_
      rintro e w ⟨rfl, rfl⟩
      unfold i64R
      dsimp only [Option.getD_none, Option.isSome_none]
      go_wp2_with (at_builtin; refine append_text rfl (.tmp 30) (.tmp 31) rfl w.heap.size rfl HO.out rfl HM.out (alloc_below w _).size ?_; intro a2 n2 c2 w2 hn2 hO2 hB2; have HO2 : Hid (Own w2 w.heap.size a2 n2 c2 (body (lst s))) := (by rw [HE.out] at hO2; exact hO2); have HB2 : Hid (Below w.heap.size w w2) := (alloc_below w _).trans hB2; clear hn2 hO2 hB2)
      go_ret
      exact ⟨HB2.out, _, _, _, rfl, HO2.out⟩
    · have hO := Own.made w [224, UInt8.ofNat (s.size / 256), UInt8.ofNat s.size] w.heap.size 3 rfl (Nat.le_refl _) (by decide)
      have HE : Hid ([224, UInt8.ofNat (s.size / 256), UInt8.ofNat s.size] ++ lst s = body (lst s)) := by show _ = _; rw [body_long hp h]; rfl
      rw [show cells [224, UInt8.ofNat (s.size / 256), UInt8.ofNat s.size] = [.int .u8 224, .int .u8 ((s.size : Int) / 256), .int .u8 ((s.size : Int) % 256)] by simp [cells]; omega] at hO
      have HO : Hid (Own (w.alloc (.cells #[.int .u8 224, .int .u8 ((s.size : Int) / 256), .int .u8 ((s.size : Int) % 256)] 5)) w.heap.size (some ⟨w.heap.size, 0, none⟩) 3 3 [224, UInt8.ofNat (s.size / 256), UInt8.ofNat s.size]) := hO
      have HM : Hid (3 + s.size ≤ 140737488355328) := by show _ ≤ _; omega
      clear hO hp
      go_enter Tryz.func127, Tryz.ntmps127
      go_wp2_with fail
      refine (HP _).mono ?_
      rintro e w ⟨rfl, rfl⟩
      unfold i64R
      dsimp only [Option.getD_none, Option.isSome_none]
      go_wp2_with (at_builtin; refine append_text rfl (.tmp 30) (.tmp 31) rfl w.heap.size rfl HO.out rfl HM.out (alloc_below w _).size ?_; intro a2 n2 c2 w2 hn2 hO2 hB2; have HO2 : Hid (Own w2 w.heap.size a2 n2 c2 (body (lst s))) := (by rw [HE.out] at hO2; exact hO2); have HB2 : Hid (Below w.heap.size w w2) := (alloc_below w _).trans hB2; clear hn2 hO2 hB2)
      go_ret
      exact ⟨HB2.out, _, _, _, rfl, HO2.out⟩

/-- What Encode answers. -/
def EncR (w : World) (s : ByteArray) (e : Ending) (w' : World) : Prop :=
  Below w.heap.size w w' ∧ ∃ a n c, e = .returned (.tuple #[.slice a n c, .int .i64 0]) ∧ Own w' w.heap.size a n c (enc (lst s))

theorem Encode_long (s : ByteArray) (w : World) (hs : 4096 < s.size) (hm : s.size ≤ maxLen) : Calls Tryz.prog 98 #[.string s] w fun e w' => e = .returned (.tuple #[.slice none 0 0, .int .i64 11]) ∧ w' = w := by
  unfold maxLen at hm
  go_enter Tryz.func98, Tryz.ntmps98
  go_wp2
  go_ret2
  exact ⟨rfl, rfl⟩

set_option maxHeartbeats 1000000 in
theorem Encode_any (s : ByteArray) (w : World) (hs : s.size ≤ 4096) : Calls Tryz.prog 98 #[.string s] w fun e w' => EncR w s e w' := by
  have HB := fun w => encodeBody_any s w hs
  have hl := body_len (lst s)
  rw [len_lst] at hl
  have HC := fun w => encodeBack_any (body (lst s)).length w (by omega)
  go_enter Tryz.func98, Tryz.ntmps98
  go_wp2_with fail
  refine (HB _).mono ?_
  rintro e w1 ⟨hb, a, m, c, rfl, hO⟩
  have HO : Hid (Own w1 w.heap.size a m c (body (lst s))) := hO
  have H1 : Hid (Below w.heap.size w w1) := hb
  have hm := hO.len
  rw [hm] at HC hl
  clear hO hb
  have hm2 : m ≤ 5000 := by omega
  clear hl
  go_wp2_with fail
  refine (HC _).mono ?_
  rintro e w2 ⟨hb, a2, m2, c2, rfl, hO⟩
  have H2 := step_below H1 hb
  have hm3 : m2 ≤ 2 := by
    have := hO.len
    rw [back_len] at this
    split at this <;> omega
  have HO1 : Hid (Own w2 w.heap.size a m c (body (lst s))) := HO.out.keep hb
  have HR : Hid (Rd w2 a2 m2 c2 (back m)) := hO.rd
  have HM : Hid (m + m2 ≤ 140737488355328) := by show _ ≤ _; omega
  have HE : Hid (body (lst s) ++ back m = enc (lst s)) := by show _ = _; unfold enc; rw [hm]
  clear hO hb hm
  go_wp2_with (at_builtin; refine append_row rfl (.tmp 10) (.tmp 13) rfl w.heap.size rfl HO1.out rfl HR.out HM.out H2.out.size ?_; intro a3 n3 c3 w3 hn3 hO3 hB3; have HO3 : Hid (Own w3 w.heap.size a3 n3 c3 (enc (lst s))) := (by rw [HE.out] at hO3; exact hO3); have HB3 : Hid (Below w.heap.size w w3) := H2.out.trans hB3; clear hn3 hO3 hB3)
  go_ret2
  exact ⟨HB3.out, _, _, _, rfl, HO3.out⟩
end Go.Proofs.YtkohjejfkbaffaaGreat

namespace Go.Proofs.YtkohjejfkbaffaaGreat
open Go.RowKit Go.PlainAid

theorem Rd.two (w : World) (x y : Int) (b c : UInt8) (h : (b.toNat : Int) = x) (h' : (c.toNat : Int) = y) : Rd (w.alloc (.cells #[.int .u8 x, .int .u8 y] 5)) (some ⟨w.heap.size, 0, none⟩) 2 2 [b, c] := by
  have := (Own.made w [b, c] w.heap.size 2 rfl (Nat.le_refl _) (by decide)).rd
  rw [show cells [b, c] = [.int .u8 x, .int .u8 y] by simp [cells, h, h']] at this
  exact this

end Go.Proofs.YtkohjejfkbaffaaGreat
