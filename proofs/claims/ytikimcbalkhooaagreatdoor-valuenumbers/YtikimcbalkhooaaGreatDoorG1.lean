/- Texts that the others stand on. -/
import Derived.Test.YtikimcbalkhooaaGreatDoorProg
import Derived.WalkKit
import Derived.WalkSpells
import Derived.Laws.IdiomStrings
import Derived.Deep.LoopGhost
import Derived.Deep.Cut
import Derived.PlainAid
import Derived.Lib.IndexBytes
import Derived.Elder7
import Derived.Lib.ConvBytes
import Derived.Lib.AppendStr
import Derived.Deep.OwnRows
import Derived.Deep.CutRange
import Derived.Laws.AppendOwnNone
import Derived.Deep.QuietTactic
import Derived.BigQuiet
import Derived.Laws.BitsAllLaws
import Derived.Laws.CopyOwn
import Derived.Lib.Overlaps
import Derived.Lib.SliceRun
import Derived.Lib.AppendZerosOnto
import Derived.Deep.RegionLaw
namespace Go.Proofs.YtikimcbalkhooaaGreatDoor
/-- A row of digits, read onto n; none: a byte that is no digit, or a number of more than 64 bits. -/
def rd : Nat → List UInt8 → Option Nat
  | n, [] => some n
  | n, b :: r => if 48 ≤ b.toNat ∧ b.toNat ≤ 57 ∧ n * 10 + (b.toNat - 48) < 18446744073709551616 then rd (n * 10 + (b.toNat - 48)) r else none
/-- The decimal text of n. -/
def dec (n : Nat) : List UInt8 := if h : n < 10 then [UInt8.ofNat (48 + n)] else dec (n / 10) ++ [UInt8.ofNat (48 + n % 10)]
  termination_by n
  decreasing_by omega
theorem dec_low {n : Nat} (h : n < 10) : dec n = [UInt8.ofNat (48 + n)] := by rw [dec, dif_pos h]
theorem dec_high {n : Nat} (h : ¬ n < 10) : dec n = dec (n / 10) ++ [UInt8.ofNat (48 + n % 10)] := by rw [dec, dif_neg h]
theorem head_append {l r : List UInt8} (h : l ≠ []) : (l ++ r).head? = l.head? := by
  cases l with
  | nil => exact absurd rfl h
  | cons b l => rfl
theorem dec_ne (n : Nat) : dec n ≠ [] := by
  by_cases h : n < 10
  · rw [dec_low h]; simp
  · rw [dec_high h]; simp
theorem dec_len (k : Nat) : ∀ n, n < 10 ^ (k + 1) → (dec n).length ≤ k + 1 := by
  induction k with
  | zero => intro n h; rw [dec_low (by simpa using h)]; simp
  | succ k ih =>
    intro n h
    by_cases h1 : n < 10
    · rw [dec_low h1]; simp
    · rw [dec_high h1]
      have : n / 10 < 10 ^ (k + 1) := by rw [Nat.div_lt_iff_lt_mul (by omega)]; rw [Nat.pow_succ] at h; exact h
      have := ih _ this
      simp; omega
theorem dec_len20 {n : Nat} (h : n < 18446744073709551616) : (dec n).length ≤ 20 := dec_len 19 n (by omega)
theorem digit_toNat (d : Nat) (h : d < 10) : (UInt8.ofNat (48 + d)).toNat = 48 + d := by
  rw [UInt8.toNat_ofNat']; omega
theorem rd_append (l r : List UInt8) : ∀ n, rd n (l ++ r) = (rd n l).bind fun m => rd m r := by
  induction l with
  | nil => intro n; rfl
  | cons b l ih =>
    intro n
    simp only [List.cons_append, rd]
    split
    · exact ih _
    · rfl
theorem rd_digit (n d : Nat) (h : d < 10) (hn : n * 10 + d < 18446744073709551616) : rd n [UInt8.ofNat (48 + d)] = some (n * 10 + d) := by
  simp only [rd, digit_toNat d h]
  rw [if_pos (by omega)]
  congr 1; omega
theorem rd_dec (n : Nat) : n < 18446744073709551616 → rd 0 (dec n) = some n := by
  induction n using Nat.strongRecOn with
  | _ n ih =>
    intro h
    by_cases h1 : n < 10
    · rw [dec_low h1, rd_digit 0 n h1 (by omega)]; simp
    · rw [dec_high h1, rd_append, ih (n / 10) (by omega) (by omega)]
      show rd (n / 10) _ = _
      rw [rd_digit _ _ (by omega) (by omega)]
      congr 1; omega
theorem rd_lt (l : List UInt8) : ∀ n m, n < 18446744073709551616 → rd n l = some m → m < 18446744073709551616 := by
  induction l with
  | nil => intro n m h e; cases e; exact h
  | cons b l ih =>
    intro n m h e
    simp only [rd] at e
    split at e
    · exact ih _ _ (by omega) e
    · cases e
theorem dec_head (n : Nat) : 0 < n → (dec n).head? ≠ some 48 ∧ (dec n).head? ≠ some 45 := by
  induction n using Nat.strongRecOn with
  | _ n ih =>
    intro h
    by_cases h1 : n < 10
    · rw [dec_low h1]
      have := digit_toNat n h1
      constructor
      · intro e; have e' : UInt8.ofNat (48 + n) = 48 := by simpa using e
        rw [e'] at this; have h48 : (48 : UInt8).toNat = 48 := rfl; omega
      · intro e; have e' : UInt8.ofNat (48 + n) = 45 := by simpa using e
        rw [e'] at this; have h45 : (45 : UInt8).toNat = 45 := rfl; omega
    · rw [dec_high h1, head_append (dec_ne _)]
      exact ih (n / 10) (by omega) (by omega)
theorem dec_zero : dec 0 = [48] := dec_low (by omega)
/-- What is read of a row of digits with no zero ahead is written so. -/
theorem dec_of_rd (l : List UInt8) (n : Nat) (hne : l ≠ []) (hz : 1 < l.length → l.head? ≠ some 48) (h : rd 0 l = some n) : l = dec n := by
  induction hk : l.length generalizing l n with
  | zero => exact absurd (List.length_eq_zero_iff.1 hk) hne
  | succ k ih =>
    obtain ⟨l', b, rfl⟩ : ∃ l' b, l = l' ++ [b] := ⟨l.dropLast, l.getLast hne, (List.dropLast_concat_getLast hne).symm⟩
    rw [rd_append] at h
    cases hl : rd 0 l' with
    | none => rw [hl] at h; cases h
    | some m =>
      rw [hl] at h
      have h2 : rd m [b] = some n := h
      simp only [rd] at h2
      split at h2
      · rename_i hc
        have hn : m * 10 + (b.toNat - 48) = n := Option.some.inj h2
        have hb : UInt8.ofNat (48 + (b.toNat - 48)) = b := by
          rw [show 48 + (b.toNat - 48) = b.toNat by omega]; simp
        by_cases he : l' = []
        · subst he
          have hm : 0 = m := Option.some.inj hl
          subst hm
          rw [dec_low (by omega), ← hn]
          simp only [Nat.zero_mul, Nat.zero_add]
          rw [hb]; rfl
        · have hlen : 0 < l'.length := List.length_pos_iff.2 he
          have hh : l'.head? ≠ some 48 := by
            have := hz (by simp; omega)
            rwa [head_append he] at this
          have e := ih l' m he (fun _ => hh) hl (by simp at hk; omega)
          have hm : 0 < m := by
            rcases Nat.eq_zero_or_pos m with h0 | h0
            · subst h0; rw [e, dec_zero] at hh; exact absurd rfl hh
            · exact h0
          rw [dec_high (show ¬ n < 10 by omega), show n / 10 = m by omega, ← e, show n % 10 = b.toNat - 48 by omega, hb]
      · cases h2
/-- One digit or more. -/
def digitsL (l : List UInt8) : Option Nat := if l = [] then none else rd 0 l
/-- No zero ahead. -/
def plainL (l : List UInt8) : Option Nat := if 1 < l.length ∧ l.head? = some 48 then none else digitsL l
/-- A cursor: at most 20 digits. -/
def cursorL (l : List UInt8) : Option Nat := if 20 < l.length then none else digitsL l
/-- The text of a number with its sign. -/
def fmtL (n : Int) : List UInt8 := if n < 0 then 45 :: dec (-n).toNat else dec n.toNat
def belowL (l : List UInt8) : Option Int := (plainL l).bind fun n => if n = 0 ∨ 9223372036854775808 < n then none else some (-(n : Int))
def parseL (l : List UInt8) : Option Int :=
  if l.head? = some 45 then belowL l.tail else (plainL l).bind fun n => if 9223372036854775807 < n then none else some (n : Int)
theorem plainL_dec {n : Nat} (h : n < 18446744073709551616) : plainL (dec n) = some n := by
  unfold plainL digitsL
  rw [if_neg, if_neg (dec_ne n), rd_dec n h]
  rintro ⟨h1, h2⟩
  rcases Nat.eq_zero_or_pos n with h0 | h0
  · subst h0; rw [dec_zero] at h1; simp at h1
  · exact (dec_head n h0).1 h2
theorem plainL_some {l : List UInt8} {n : Nat} (h : plainL l = some n) : l = dec n ∧ n < 18446744073709551616 := by
  unfold plainL digitsL at h
  split at h
  · cases h
  · rename_i hz
    split at h
    · cases h
    · rename_i hne
      exact ⟨dec_of_rd l n hne (fun h1 h2 => hz ⟨h1, h2⟩) h, rd_lt l 0 n (by omega) h⟩
theorem cursorL_dec {n : Nat} (h : n < 18446744073709551616) : cursorL (dec n) = some n := by
  unfold cursorL digitsL
  rw [if_neg (by have := dec_len20 h; omega), if_neg (dec_ne n), rd_dec n h]
theorem dec_head45 (n : Nat) : (dec n).head? ≠ some 45 := by
  rcases Nat.eq_zero_or_pos n with h0 | h0
  · subst h0; rw [dec_zero]; decide
  · exact (dec_head n h0).2
theorem parseL_fmtL {n : Int} (h1 : -9223372036854775808 ≤ n) (h2 : n < 9223372036854775808) : parseL (fmtL n) = some n := by
  unfold parseL fmtL
  by_cases h : n < 0
  · rw [if_pos h, if_pos (show (45 :: dec (-n).toNat).head? = some 45 from rfl), List.tail_cons]
    unfold belowL
    rw [plainL_dec (by omega)]
    show (if _ then _ else _) = _
    rw [if_neg (by omega)]
    congr 1; omega
  · rw [if_neg h, if_neg (dec_head45 _), plainL_dec (by omega)]
    show (if _ then _ else _) = _
    rw [if_neg (by omega)]
    congr 1; omega
theorem parseL_some {l : List UInt8} {n : Int} (h : parseL l = some n) : l = fmtL n ∧ -9223372036854775808 ≤ n ∧ n < 9223372036854775808 := by
  unfold parseL at h
  split at h
  · rename_i h45
    unfold belowL at h
    cases hp : plainL l.tail with
    | none => rw [hp] at h; cases h
    | some m =>
      rw [hp] at h
      have h' : (if m = 0 ∨ 9223372036854775808 < m then none else some (-(m : Int))) = some n := h
      split at h'
      · cases h'
      · have hn : -(m : Int) = n := Option.some.inj h'
        obtain ⟨e, hm⟩ := plainL_some hp
        have hl : l = 45 :: l.tail := by
          cases l with
          | nil => cases h45
          | cons b r => have : b = 45 := by simpa using h45
                        rw [this]; rfl
        refine ⟨?_, by omega, by omega⟩
        unfold fmtL
        rw [if_pos (by omega), hl, e]
        congr 2; omega
  · cases hp : plainL l with
    | none => rw [hp] at h; cases h
    | some m =>
      rw [hp] at h
      have h' : (if 9223372036854775807 < m then none else some (m : Int)) = some n := h
      split at h'
      · cases h'
      · have hn : (m : Int) = n := Option.some.inj h'
        obtain ⟨e, hm⟩ := plainL_some hp
        refine ⟨?_, by omega, by omega⟩
        unfold fmtL
        rw [if_neg (by omega), e]
        congr 1; omega
theorem plainL_lt {l : List UInt8} {n : Nat} (h : plainL l = some n) : n < 18446744073709551616 := (plainL_some h).2
theorem digitsL_lt {l : List UInt8} {n : Nat} (h : digitsL l = some n) : n < 18446744073709551616 := by
  unfold digitsL at h
  split at h
  · cases h
  · exact rd_lt l 0 n (by omega) h
end Go.Proofs.YtikimcbalkhooaaGreatDoor
namespace Go.Proofs.YtikimcbalkhooaaGreatDoor
open Go.RowKit Go.PlainAid
/-- A text's bytes. -/
abbrev lst (s : ByteArray) : List UInt8 := s.data.toList
def u64R (o : Option Nat) : Value := .tuple #[.int .u64 (o.getD 0 : Nat), .bool o.isSome]
def i64R (o : Option Int) : Value := .tuple #[.int .i64 (o.getD 0), .bool o.isSome]
theorem fits_yes (n d : Int) (w : World) (h0 : 0 ≤ d) (h9 : d ≤ 9) (hf : n * 10 + d < 18446744073709551616) :
    Calls Tryz.prog 170 #[.int .u64 n, .int .u64 d] w fun e w' => e = .returned (.bool true) ∧ w' = w := by
  have hq : n ≤ (18446744073709551615 - d) / 10 := by omega
  go_enter Tryz.func170, Tryz.ntmps170
  go_wp2
  go_ret
  exact ⟨rfl, rfl⟩
theorem fits_no (n d : Int) (w : World) (h0 : 0 ≤ d) (h9 : d ≤ 9) (hf : ¬ n * 10 + d < 18446744073709551616) :
    Calls Tryz.prog 170 #[.int .u64 n, .int .u64 d] w fun e w' => e = .returned (.bool false) ∧ w' = w := by
  have hq : ¬ n ≤ (18446744073709551615 - d) / 10 := by omega
  go_enter Tryz.func170, Tryz.ntmps170
  go_wp2
  go_ret
  exact ⟨rfl, rfl⟩
theorem drop_at (s : ByteArray) (k : Nat) (h : k < s.size) : (lst s).drop k = s[k] :: (lst s).drop (k + 1) := by
  rw [List.drop_eq_getElem_cons (by simpa using h)]; rfl
theorem rd_bad {l r : List UInt8} {b : UInt8} {n : Nat} {c : Int} (hl : l = b :: r) (hc : (b.toNat : Int) = c) (h : c < 48 ∨ 57 < c ∨ ¬ (n : Int) * 10 + (c - 48) < 18446744073709551616) : rd n l = none := by
  subst hl
  simp only [rd]
  rw [if_neg (by omega)]
theorem rd_good {l r : List UInt8} {b : UInt8} {n : Nat} {c : Int} (hl : l = b :: r) (hc : (b.toNat : Int) = c) (h1 : 48 ≤ c) (h2 : c ≤ 57) (h3 : (n : Int) * 10 + (c - 48) < 18446744073709551616) : rd n l = rd ((n : Int) * 10 + (c - 48)).toNat r := by
  subst hl
  simp only [rd]
  rw [if_pos (by omega)]
  congr 1; omega
theorem digits_none (w : World) : Calls Tryz.prog 132 #[.string ⟨#[]⟩] w fun e w' => e = .returned (u64R none) ∧ w' = w := by
  go_enter Tryz.func132, Tryz.ntmps132
  go_wp2
  go_ret2
  exact ⟨rfl, rfl⟩
set_option maxHeartbeats 1000000 in
theorem digits_any (s : ByteArray) (w : World) (hs : s.size ≤ maxLen) (o : Option Nat) (ho : digitsL (lst s) = o) :
    Calls Tryz.prog 132 #[.string s] w fun e w' => e = .returned (u64R o) ∧ w' = w := by
  unfold maxLen at hs
  by_cases he : lst s = []
  · have hs0 : s = ⟨#[]⟩ := by
      cases s with
      | mk d => have : d.toList = [] := he
                rw [Array.toList_eq_nil_iff] at this; rw [this]
    subst hs0
    rw [← ho]
    exact digits_none w
  have HO : Hid (rd 0 (lst s) = o) := by show rd 0 _ = _; rw [← ho]; unfold digitsL; rw [if_neg he]
  have hne : s.toList.isEmpty = false := by
    rw [ByteArray.toList_eq]; simpa using he
  clear ho he
  go_enter Tryz.func132, Tryz.ntmps132
  go_wp2
  go_loopg [4, 5] s.size (fun g nv i wr => w = wr ∧ ∃ k n : Nat, k + g = s.size ∧ i = .int .i64 k ∧ nv = .int .u64 n ∧ n < 18446744073709551616 ∧ Hid (rd n ((lst s).drop k) = o))
  case atStart => exact ⟨rfl, 0, 0, by omega, rfl, rfl, by omega, HO⟩
  case round =>
    obtain ⟨rfl, k, n, hk, rfl, rfl, hn, H⟩ := hrel
    have HK : Hid (k + gk = s.size) := hk
    clear hk HO
    by_cases hlt : k < s.size
    · have HD : Hid ((lst s).drop k = s[k] :: (lst s).drop (k + 1)) := drop_at s k hlt
      obtain ⟨c, hc⟩ : ∃ c : Int, ((s[k]'hlt).toNat : Int) = c := ⟨_, rfl⟩
      have hc0 : 0 ≤ c ∧ c ≤ 255 := by have := (s[k]'hlt).toNat_lt; omega
      have HC : Hid (((s[k]'hlt).toNat : Int) = c) := hc
      have e1 : IntKind.u64.wrap c = c := u64_nonneg (by omega) (by omega)
      by_cases h1 : c < 48
      · have e2 : IntKind.u64.wrap (c - 48) = c - 48 + 18446744073709551616 := u64_neg (by omega) (by omega)
        have HN : Hid (none = o) := (rd_bad HD.out HC.out (by omega)).symm.trans H.out
        go_wp2
        go_ret2
        exact ⟨by rw [← HN.out]; rfl, rfl⟩
      by_cases h2 : 57 < c
      · have HN : Hid (none = o) := (rd_bad HD.out HC.out (by omega)).symm.trans H.out
        go_wp2
        go_ret2
        exact ⟨by rw [← HN.out]; rfl, rfl⟩
      by_cases h3 : (n : Int) * 10 + (c - 48) < 18446744073709551616
      · have HN : Hid (rd ((n : Int) * 10 + (c - 48)).toNat ((lst s).drop (k + 1)) = o) := (rd_good HD.out HC.out (by omega) (by omega) h3).symm.trans H.out
        go_wp2_with (go_at_call 170; refine (fits_yes _ _ _ (by omega) (by omega) h3).mono ?_; rintro e w ⟨rfl, rfl⟩)
        go_roundg (gk - 1)
        case measure => have := HK.out; omega
        case rel => exact ⟨rfl, k + 1, ((n : Int) * 10 + (c - 48)).toNat, by have := HK.out; omega, by go_num, by go_num, by omega, HN⟩
      · have HN : Hid (none = o) := (rd_bad HD.out HC.out (by omega)).symm.trans H.out
        go_wp2_with (go_at_call 170; refine (fits_no _ _ _ (by omega) (by omega) h3).mono ?_; rintro e w ⟨rfl, rfl⟩)
        go_ret2
        exact ⟨by rw [← HN.out]; rfl, rfl⟩
    · have HN : Hid (some n = o) := by
        have := H.out
        rw [List.drop_eq_nil_of_le (by simp; omega)] at this
        exact this
      go_wp2
      go_ret2
      exact ⟨by rw [← HN.out]; rfl, rfl⟩
theorem head_at (s : ByteArray) (h : 0 < s.size) : (lst s).head? = some (s[0]'h) := by
  have := drop_at s 0 h
  rw [List.drop_zero] at this
  rw [this]; rfl
theorem tail_at (s : ByteArray) : lst (s.extract 1 s.size) = (lst s).tail := by
  unfold lst; rw [Lib.extract_to_end, List.drop_one]
theorem byte_eq {b : UInt8} {c : Int} (h : (b.toNat : Int) = c) (k : Nat) (hk : k < 256) : b = UInt8.ofNat k ↔ c = k := by
  constructor
  · rintro rfl
    rw [UInt8.toNat_ofNat'] at h; omega
  · intro e
    have : b.toNat = k := by omega
    rw [← this]; simp
theorem plain_any (s : ByteArray) (w : World) (hs : s.size ≤ maxLen) (o : Option Nat) (ho : plainL (lst s) = o) :
    Calls Tryz.prog 88 #[.string s] w fun e w' => e = .returned (u64R o) ∧ w' = w := by
  have HS : Hid (s.size ≤ maxLen) := hs
  unfold maxLen at hs
  by_cases hlt : 1 < s.size
  · have h0 : 0 < s.size := by omega
    obtain ⟨c, hc⟩ : ∃ c : Int, ((s[0]'h0).toNat : Int) = c := ⟨_, rfl⟩
    have hh := head_at s h0
    by_cases h48 : c = 48
    · subst h48
      have HN : Hid (none = o) := by
        show none = o
        rw [← ho, plainL, if_pos]
        refine ⟨by simpa using hlt, ?_⟩
        rw [hh, (byte_eq hc 48 (by omega)).2 rfl]; rfl
      clear ho hh
      go_enter Tryz.func88, Tryz.ntmps88
      go_wp2
      go_ret2
      exact ⟨by rw [← HN.out]; rfl, rfl⟩
    · have HN : Hid (digitsL (lst s) = o) := by
        show _ = o
        rw [← ho, plainL, if_neg]
        rintro ⟨-, h2⟩
        rw [hh] at h2
        exact h48 ((byte_eq hc 48 (by omega)).1 (Option.some.inj h2))
      clear ho hh
      have hq : (c == 48) = false := by simp [h48]
      clear h48
      go_enter Tryz.func88, Tryz.ntmps88
      go_wp2_with (go_at_call 132; refine (digits_any s _ HS.out o HN.out).mono ?_; rintro e w ⟨rfl, rfl⟩; unfold u64R)
      go_ret2
      exact ⟨rfl, rfl⟩
  · have HN : Hid (digitsL (lst s) = o) := by
      show _ = o
      rw [← ho, plainL, if_neg]
      rintro ⟨h1, -⟩
      exact hlt (by simpa using h1)
    clear ho
    go_enter Tryz.func88, Tryz.ntmps88
    go_wp2_with (go_at_call 132; refine (digits_any s _ HS.out o HN.out).mono ?_; rintro e w ⟨rfl, rfl⟩; unfold u64R)
    go_ret2
    exact ⟨rfl, rfl⟩
theorem below_any (s : ByteArray) (w : World) (hs : s.size ≤ maxLen) (o : Option Int) (ho : belowL (lst s) = o) :
    Calls Tryz.prog 87 #[.string s] w fun e w' => e = .returned (i64R o) ∧ w' = w := by
  unfold belowL at ho
  cases hp : plainL (lst s) with
  | none =>
    rw [hp] at ho
    have HN : Hid (none = o) := ho
    clear ho
    go_enter Tryz.func87, Tryz.ntmps87
    go_wp2_with (go_at_call 88; refine (plain_any s _ hs none hp).mono ?_; rintro e w ⟨rfl, rfl⟩; dsimp only [u64R, Option.getD_none, Option.isSome_none])
    go_ret2
    exact ⟨by rw [← HN.out]; rfl, rfl⟩
  | some n =>
    rw [hp] at ho
    have hn := plainL_lt hp
    have ho' : (if n = 0 ∨ 9223372036854775808 < n then none else some (-(n : Int))) = o := ho
    clear ho
    by_cases h : n = 0 ∨ 9223372036854775808 < n
    · rw [if_pos h] at ho'
      have HN : Hid (none = o) := ho'
      clear ho'
      have hh : (n : Int) = 0 ∨ (9223372036854775808 : Int) < n := by omega
      clear h
      rcases hh with h | h
      · go_enter Tryz.func87, Tryz.ntmps87
        go_wp2_with (go_at_call 88; refine (plain_any s _ hs (some n) hp).mono ?_; rintro e w ⟨rfl, rfl⟩; dsimp only [u64R, Option.getD_some, Option.isSome_some])
        go_ret2
        exact ⟨by rw [← HN.out]; rfl, rfl⟩
      · have hq : ((n : Int) == 0) = false := by simp; omega
        go_enter Tryz.func87, Tryz.ntmps87
        go_wp2_with (go_at_call 88; refine (plain_any s _ hs (some n) hp).mono ?_; rintro e w ⟨rfl, rfl⟩; dsimp only [u64R, Option.getD_some, Option.isSome_some])
        go_ret2
        exact ⟨by rw [← HN.out]; rfl, rfl⟩
    · rw [if_neg h] at ho'
      have HN : Hid (some (-(n : Int)) = o) := ho'
      clear ho'
      have h1 : 0 < (n : Int) := by omega
      have h2 : ¬ (9223372036854775808 : Int) < n := by omega
      have hq : ((n : Int) == 0) = false := by simp; omega
      clear h
      have HW : Hid (wrap64 (-(wrap64 (n : Int))) = -(n : Int)) := by
        show _ = _
        unfold wrap64; omega
      go_enter Tryz.func87, Tryz.ntmps87
      go_wp2_with (go_at_call 88; refine (plain_any s _ hs (some n) hp).mono ?_; rintro e w ⟨rfl, rfl⟩; dsimp only [u64R, Option.getD_some, Option.isSome_some])
      go_ret2
      exact ⟨by rw [← HN.out, HW.out]; rfl, rfl⟩
theorem Parse_minus (s : ByteArray) (w : World) (hs : s.size ≤ maxLen) (h0 : 0 < s.size) (hc : ((s[0]'h0).toNat : Int) = 45) (o : Option Int) (ho : belowL (lst s).tail = o) :
    Calls Tryz.prog 56 #[.string s] w fun e w' => e = .returned (i64R o) ∧ w' = w := by
  have hx : (s.extract 1 s.size).size ≤ maxLen := by
    have : (s.extract 1 s.size).size ≤ s.size := by simp
    omega
  have HN : Hid (belowL (lst (s.extract 1 s.size)) = o) := by
    show _ = o
    rw [tail_at]; exact ho
  have HX : Hid ((s.extract 1 s.size).size ≤ maxLen) := hx
  clear hx ho
  unfold maxLen at hs
  go_enter Tryz.func56, Tryz.ntmps56
  go_wp2_with (go_at_call 87; refine (below_any _ _ HX.out o HN.out).mono ?_; rintro e w ⟨rfl, rfl⟩; unfold i64R)
  go_ret2
  exact ⟨rfl, rfl⟩
/-- What Parse is where no minus stands ahead. -/
def upL (l : List UInt8) : Option Int := (plainL l).bind fun n => if 9223372036854775807 < n then none else some (n : Int)
/-- What Parse does behind its first test. -/
theorem Parse_plain (s : ByteArray) (w : World) (hs : s.size ≤ maxLen) (hc : s.size = 0 ∨ ∃ (h0 : 0 < s.size) (c : Int), ((s[0]'h0).toNat : Int) = c ∧ (c == 45) = false) (o : Option Int) (ho : upL (lst s) = o) :
    Calls Tryz.prog 56 #[.string s] w fun e w' => e = .returned (i64R o) ∧ w' = w := by
  have HS : Hid (s.size ≤ maxLen) := hs
  unfold maxLen at hs
  unfold upL at ho
  have main : ∀ (p : Option Nat), plainL (lst s) = p → (p = none ∧ none = o ∨ ∃ n : Nat, p = some n ∧ n < 18446744073709551616 ∧ ((9223372036854775807 : Int) < n ∧ none = o ∨ ¬ (9223372036854775807 : Int) < n ∧ some (n : Int) = o)) := by
    intro p hp
    cases p with
    | none => rw [hp] at ho; exact .inl ⟨rfl, ho⟩
    | some n =>
      rw [hp] at ho
      have ho' : (if 9223372036854775807 < n then none else some (n : Int)) = o := ho
      refine .inr ⟨n, rfl, plainL_lt hp, ?_⟩
      split at ho'
      · exact .inl ⟨by omega, ho'⟩
      · exact .inr ⟨by omega, ho'⟩
  obtain ⟨p, hp⟩ : ∃ p, plainL (lst s) = p := ⟨_, rfl⟩
  have HP : Hid (plainL (lst s) = p) := hp
  have hm := main p hp
  clear main ho hp
  rcases hc with hc | ⟨h0, c, hc, hq⟩
  · rcases hm with ⟨rfl, hn⟩ | ⟨n, rfl, hlt, ⟨h, hn⟩ | ⟨h, hn⟩⟩
    · have HN : Hid (none = o) := hn
      clear hn
      go_enter Tryz.func56, Tryz.ntmps56
      go_wp2_with (go_at_call 88; refine (plain_any s _ HS.out none HP.out).mono ?_; rintro e w ⟨rfl, rfl⟩; dsimp only [u64R, Option.getD_none, Option.isSome_none])
      go_ret2
      exact ⟨by rw [← HN.out]; rfl, rfl⟩
    · have HN : Hid (none = o) := hn
      clear hn
      go_enter Tryz.func56, Tryz.ntmps56
      go_wp2_with (go_at_call 88; refine (plain_any s _ HS.out (some n) HP.out).mono ?_; rintro e w ⟨rfl, rfl⟩; dsimp only [u64R, Option.getD_some, Option.isSome_some])
      go_ret2
      exact ⟨by rw [← HN.out]; rfl, rfl⟩
    · have HN : Hid (some (n : Int) = o) := hn
      clear hn
      go_enter Tryz.func56, Tryz.ntmps56
      go_wp2_with (go_at_call 88; refine (plain_any s _ HS.out (some n) HP.out).mono ?_; rintro e w ⟨rfl, rfl⟩; dsimp only [u64R, Option.getD_some, Option.isSome_some])
      go_ret2
      exact ⟨by rw [← HN.out]; rfl, rfl⟩
  · rcases hm with ⟨rfl, hn⟩ | ⟨n, rfl, hlt, ⟨h, hn⟩ | ⟨h, hn⟩⟩
    · have HN : Hid (none = o) := hn
      clear hn
      go_enter Tryz.func56, Tryz.ntmps56
      go_wp2_with (go_at_call 88; refine (plain_any s _ HS.out none HP.out).mono ?_; rintro e w ⟨rfl, rfl⟩; dsimp only [u64R, Option.getD_none, Option.isSome_none])
      go_ret2
      exact ⟨by rw [← HN.out]; rfl, rfl⟩
    · have HN : Hid (none = o) := hn
      clear hn
      go_enter Tryz.func56, Tryz.ntmps56
      go_wp2_with (go_at_call 88; refine (plain_any s _ HS.out (some n) HP.out).mono ?_; rintro e w ⟨rfl, rfl⟩; dsimp only [u64R, Option.getD_some, Option.isSome_some])
      go_ret2
      exact ⟨by rw [← HN.out]; rfl, rfl⟩
    · have HN : Hid (some (n : Int) = o) := hn
      clear hn
      go_enter Tryz.func56, Tryz.ntmps56
      go_wp2_with (go_at_call 88; refine (plain_any s _ HS.out (some n) HP.out).mono ?_; rintro e w ⟨rfl, rfl⟩; dsimp only [u64R, Option.getD_some, Option.isSome_some])
      go_ret2
      exact ⟨by rw [← HN.out]; rfl, rfl⟩
theorem Parse_any (s : ByteArray) (w : World) (hs : s.size ≤ maxLen) (o : Option Int) (ho : parseL (lst s) = o) :
    Calls Tryz.prog 56 #[.string s] w fun e w' => e = .returned (i64R o) ∧ w' = w := by
  unfold parseL at ho
  by_cases h0 : 0 < s.size
  · have hh := head_at s h0
    by_cases hc : ((s[0]'h0).toNat : Int) = 45
    · rw [if_pos (by rw [hh, (byte_eq hc 45 (by omega)).2 rfl]; rfl)] at ho
      exact Parse_minus s w hs h0 hc o ho
    · rw [if_neg (by
        intro h2
        rw [hh] at h2
        exact hc ((byte_eq rfl 45 (by omega)).1 (Option.some.inj h2)))] at ho
      exact Parse_plain s w hs (.inr ⟨h0, _, rfl, by simpa using hc⟩) o ho
  · have hz : s.size = 0 := by omega
    have hl : lst s = [] := by
      have : (lst s).length = 0 := by rw [Array.length_toList]; exact hz
      exact List.length_eq_zero_iff.1 this
    rw [if_neg (by rw [hl]; simp)] at ho
    exact Parse_plain s w hs (.inl hz) o ho
/-- A row of bytes as a text. -/
def bs (l : List UInt8) : ByteArray := ⟨l.toArray⟩
theorem lst_bs (l : List UInt8) : lst (bs l) = l := rfl
theorem bs_lst (s : ByteArray) : bs (lst s) = s := rfl
theorem size_bs (l : List UInt8) : (bs l).size = l.length := rfl
theorem cons_bs (b : UInt8) (l : List UInt8) : (⟨#[b]⟩ : ByteArray) ++ bs l = bs (b :: l) := ByteArray.mk_append_mk [b] l
theorem encode_small (n : Int) (h0 : 0 ≤ n) (h : n < 128) : Utf8.encode n = ⟨#[UInt8.ofNat n.toNat]⟩ := by
  have hv : Utf8.valid n = true := by simp [Utf8.valid]; omega
  have hlt : n.toNat < 128 := by omega
  unfold Utf8.encode
  simp only [hv, if_true]
  rw [if_pos hlt]
/-- What stands while n is written: m is left, t is there. -/
def Un (n m : Nat) (t : List UInt8) : Prop := (t = [] ∧ m = n) ∨ (t ≠ [] ∧ (m = 0 ∧ t = dec n ∨ 0 < m ∧ dec m ++ t = dec n))
theorem Un.eq {n m : Nat} {t : List UInt8} (h : Un n m t) (hc : 0 < m ∨ t = []) : dec m ++ t = dec n := by
  rcases h with ⟨rfl, rfl⟩ | ⟨hne, ⟨h1, -⟩ | ⟨-, h2⟩⟩
  · simp
  · rcases hc with hc | hc
    · omega
    · exact absurd hc hne
  · exact h2
theorem Un.step {n m : Nat} {t : List UInt8} (h : Un n m t) (hc : 0 < m ∨ t = []) : Un n (m / 10) (UInt8.ofNat (48 + m % 10) :: t) := by
  have e := h.eq hc
  refine .inr ⟨by simp, ?_⟩
  by_cases hm : m < 10
  · refine .inl ⟨by omega, ?_⟩
    rw [dec_low hm] at e
    rw [← e, Nat.mod_eq_of_lt hm]; rfl
  · refine .inr ⟨by omega, ?_⟩
    rw [dec_high hm] at e
    rw [← e]; simp
theorem Un.len {n m : Nat} {t : List UInt8} (h : Un n m t) (hc : 0 < m ∨ t = []) (hn : n < 18446744073709551616) : t.length < 20 := by
  have e := congrArg List.length (h.eq hc)
  have := dec_len20 hn
  have hp : 0 < (dec m).length := List.length_pos_iff.2 (dec_ne m)
  simp at e; omega
theorem Un.done {n m : Nat} {t : List UInt8} (h : Un n m t) (hm : m = 0) (ht : t ≠ []) : dec n = t := by
  rcases h with ⟨h, -⟩ | ⟨-, ⟨-, h⟩ | ⟨h, -⟩⟩
  · exact absurd h ht
  · exact h.symm
  · omega
theorem Un.le {n m : Nat} {t : List UInt8} (h : Un n m t) (hn : n < 18446744073709551616) : t.length ≤ 20 := by
  by_cases hc : 0 < m ∨ t = []
  · have := h.len hc hn; omega
  · have := dec_len20 hn
    rw [h.done (by omega) (fun e => hc (.inr e))] at this; exact this
set_option maxHeartbeats 1000000 in
theorem refUnsigned_any (n : Nat) (w : World) (hn : n < 18446744073709551616) :
    Calls Tryz.prog 155 #[.int .u64 n] w fun e w' => e = .returned (.string (bs (dec n))) ∧ w' = w := by
  have HN : Hid (n < 18446744073709551616) := hn
  go_enter Tryz.func155, Tryz.ntmps155
  go_wp2
  go_loopg [0, 3] 20 (fun g mv tv wr => w = wr ∧ ∃ (m : Nat) (t : List UInt8), t.length + g = 20 ∧ m < 18446744073709551616 ∧ mv = .int .u64 m ∧ tv = .string (bs t) ∧ Hid (Un n m t))
  case atStart => exact ⟨rfl, n, [], rfl, hn, rfl, rfl, .inl ⟨rfl, rfl⟩⟩
  case round =>
    obtain ⟨rfl, m, t, hg, hm, rfl, rfl, H⟩ := hrel
    have HG : Hid (t.length + gk = 20) := hg
    have hsz : (bs t).size ≤ 20 := by rw [size_bs]; omega
    clear hg
    obtain ⟨tb, htb⟩ : ∃ tb, bs t = tb := ⟨_, rfl⟩
    rw [htb] at hsz ⊢
    have HTB : Hid (bs t = tb) := htb
    obtain ⟨M, hM⟩ : ∃ M : Int, (m : Int) = M := ⟨_, rfl⟩
    rw [hM]
    have HM : Hid ((m : Int) = M) := hM
    have hM0 : 0 ≤ M ∧ M < 18446744073709551616 := by omega
    clear hM hm
    have he := encode_small (48 + M % 10) (by omega) (by omega)
    have hes : (Utf8.encode (48 + M % 10)).size ≤ 1 := by rw [he]; exact Nat.le_refl 1
    have HE : Hid (Utf8.encode (48 + M % 10) = ⟨#[UInt8.ofNat (48 + m % 10)]⟩) := by
      show _ = _
      rw [he, show (48 + M % 10).toNat = 48 + m % 10 by have := HM.out; omega]
    have HQ : Hid (M / 10 = (m / 10 : Nat)) := by show _ = _; have := HM.out; omega
    clear he
    by_cases hp : 0 < M
    · have HC : Hid (0 < m ∨ t = []) := .inl (by have := HM.out; omega)
      clear htb
      go_wp2
      go_roundg (gk - 1)
      case measure => have := H.out.len HC.out HN.out; have := HG.out; omega
      case rel => exact ⟨rfl, m / 10, _, by have := H.out.len HC.out HN.out; have := HG.out; simp; omega, by have := HM.out; omega, by rw [HQ.out], by rw [HE.out, ← HTB.out, cons_bs], H.out.step HC.out⟩
    · by_cases ht : t = []
      · have HC : Hid (0 < m ∨ t = []) := .inr ht
        have hemp : tb.toList.isEmpty = true := by rw [ByteArray.toList_eq, ← htb, ht]; rfl
        clear htb ht
        go_wp2
        go_roundg (gk - 1)
        case measure => have := H.out.len HC.out HN.out; have := HG.out; omega
        case rel => exact ⟨rfl, m / 10, _, by have := H.out.len HC.out HN.out; have := HG.out; simp; omega, by have := HM.out; omega, by rw [HQ.out], by rw [HE.out, ← HTB.out, cons_bs], H.out.step HC.out⟩
      · have hemp : tb.toList.isEmpty = false := by rw [ByteArray.toList_eq, ← htb]; simpa [lst_bs] using ht
        have HT : Hid (t ≠ []) := ht
        clear htb ht
        go_wp2
        go_ret
        exact ⟨by rw [H.out.done (by have := HM.out; omega) HT.out, HTB.out]; rfl, rfl⟩
/-- The row of twenty bytes, t at its end. -/
structure Room (w wr : World) (t : List UInt8) : Prop where
  below : Below w.heap.size w wr
  size : w.heap.size < wr.heap.size
  cell : ∀ j (h : j < t.length), wr.cell? ⟨w.heap.size, 20 - t.length + j, none⟩ = some (.int .u8 (t[j].toNat : Nat))
  any : ∀ j, j < 20 → ∃ v, wr.cell? ⟨w.heap.size, j, none⟩ = some v
  free : ∀ j, j < 20 → wr.frozen? ⟨w.heap.size, j, none⟩ = false
theorem Room.set {w wr : World} {t : List UInt8} (R : Room w wr t) (f : Nat) (hf : f + 1 + t.length = 20) (b : UInt8) (x : Int) (hx : x = (b.toNat : Nat)) : Room w (wr.setCell ⟨w.heap.size, f, none⟩ (.int .u8 x)) (b :: t) where
  below := R.below.setCell (Nat.le_refl _) _
  size := by simpa using R.size
  cell j hj := by
    rw [List.length_cons] at hj
    rw [show 20 - (b :: t).length + j = f + j by simp; omega]
    cases j with
    | zero =>
      obtain ⟨v, hv⟩ := R.any f (by omega)
      rw [Nat.add_zero, World.cell?_setCell_same _ _ _ hv, hx]; rfl
    | succ j =>
      rw [World.cell?_setCell_other (a := ⟨w.heap.size, f, none⟩) (b := ⟨w.heap.size, f + (j + 1), none⟩) _ _ (by intro h; injection h; omega)]
      have := R.cell j (by omega)
      rw [show 20 - t.length + j = f + (j + 1) by omega] at this
      rw [this]; rfl
  any j hj := by
    by_cases e : j = f
    · subst e
      obtain ⟨v, hv⟩ := R.any j hj
      exact ⟨_, World.cell?_setCell_same _ _ _ hv⟩
    · rw [World.cell?_setCell_other (a := ⟨w.heap.size, f, none⟩) (b := ⟨w.heap.size, j, none⟩) _ _ (by intro h; cases h; exact e rfl)]
      exact R.any j hj
  free j hj := by simpa using R.free j hj
theorem fmtL_neg {n : Int} (h : n < 0) : fmtL n = 45 :: dec (-n).toNat := by unfold fmtL; rw [if_pos h]
theorem fmtL_pos {n : Int} (h : ¬ n < 0) : fmtL n = dec n.toNat := by unfold fmtL; rw [if_neg h]
theorem minus_bs (l : List UInt8) : (⟨#[45]⟩ : ByteArray) ++ bs l = bs (45 :: l) := cons_bs 45 l
theorem refFormat_any (n : Int) (w : World) (h1 : -9223372036854775808 ≤ n) (h2 : n < 9223372036854775808) :
    Calls Tryz.prog 110 #[.int .i64 n] w fun e w' => e = .returned (.string (bs (fmtL n))) ∧ w' = w := by
  by_cases h : n < 0
  · have HF : Hid (bs (fmtL n) = (⟨#[45]⟩ : ByteArray) ++ bs (dec (-n).toNat)) := by
      show _ = _; rw [fmtL_neg h, minus_bs]
    have hw : IntKind.u64.wrap n = n + 18446744073709551616 := u64_neg h (by omega)
    have hw2 : IntKind.u64.wrap (-(n + 18446744073709551616)) = ((-n).toNat : Nat) := by rw [IntKind.wrap_u64]; omega
    have HU := fun w => refUnsigned_any (-n).toNat w (by omega)
    have HL : Hid ((bs (dec (-n).toNat)).size ≤ 20) := dec_len20 (n := (-n).toNat) (by omega)
    generalize (-n).toNat = k at HF hw2 HU HL
    generalize bs (dec k) = b at HF HU HL
    have hl : b.size ≤ 20 := HL.out
    go_enter Tryz.func110, Tryz.ntmps110
    go_wp2_with (go_at_call 155; refine (HU _).mono ?_; rintro e w ⟨rfl, rfl⟩)
    go_ret
    exact ⟨by rw [HF.out]; rfl, rfl⟩
  · have HF : Hid (bs (fmtL n) = bs (dec n.toNat)) := by
      show _ = _; rw [fmtL_pos h]
    have hw : IntKind.u64.wrap n = (n.toNat : Nat) := by rw [IntKind.wrap_u64]; omega
    have HU := fun w => refUnsigned_any n.toNat w (by omega)
    generalize n.toNat = k at HF hw HU
    go_enter Tryz.func110, Tryz.ntmps110
    go_wp2_with (go_at_call 155; refine (HU _).mono ?_; rintro e w ⟨rfl, rfl⟩)
    go_ret
    exact ⟨by rw [HF.out]; rfl, rfl⟩
set_option maxHeartbeats 1000000 in
theorem refCursor_any (s : ByteArray) (w : World) (hs : s.size ≤ maxLen) (o : Option Nat) (ho : cursorL (lst s) = o) :
    Calls Tryz.prog 109 #[.string s] w fun e w' => e = .returned (u64R o) ∧ w' = w := by
  unfold maxLen at hs
  by_cases h1 : s.size < 1
  · have HN : Hid (none = o) := by
      have hl : lst s = [] := List.length_eq_zero_iff.1 (by rw [Array.length_toList]; show s.size = 0; omega)
      show none = o
      rw [← ho, hl]; rfl
    clear ho
    go_enter Tryz.func109, Tryz.ntmps109
    go_wp2
    go_ret2
    exact ⟨by rw [← HN.out]; rfl, rfl⟩
  by_cases h20 : 20 < s.size
  · have HN : Hid (none = o) := by
      show none = o
      rw [← ho, cursorL, if_pos (by simpa using h20)]
    clear ho
    go_enter Tryz.func109, Tryz.ntmps109
    go_wp2
    go_ret2
    exact ⟨by rw [← HN.out]; rfl, rfl⟩
  have HO : Hid (rd 0 (lst s) = o) := by
    show rd 0 _ = _
    rw [← ho, cursorL, if_neg (by simpa using h20), digitsL, if_neg]
    intro e
    have : (lst s).length = 0 := by rw [e]; rfl
    rw [Array.length_toList] at this
    have : s.size = 0 := this
    omega
  clear ho
  go_enter Tryz.func109, Tryz.ntmps109
  go_wp2
  go_loopg [4, 5] s.size (fun g nv i wr => w = wr ∧ ∃ k n : Nat, k + g = s.size ∧ i = .int .i64 k ∧ nv = .int .u64 n ∧ n < 18446744073709551616 ∧ Hid (rd n ((lst s).drop k) = o))
  case atStart => exact ⟨rfl, 0, 0, by omega, rfl, rfl, by omega, HO⟩
  case round =>
    obtain ⟨rfl, k, n, hk, rfl, rfl, hn, H⟩ := hrel
    have HK : Hid (k + gk = s.size) := hk
    clear hk HO
    by_cases hlt : k < s.size
    · have HD : Hid ((lst s).drop k = s[k] :: (lst s).drop (k + 1)) := drop_at s k hlt
      obtain ⟨c, hc⟩ : ∃ c : Int, ((s[k]'hlt).toNat : Int) = c := ⟨_, rfl⟩
      have hc0 : 0 ≤ c ∧ c ≤ 255 := by have := (s[k]'hlt).toNat_lt; omega
      have HC : Hid (((s[k]'hlt).toNat : Int) = c) := hc
      by_cases h1 : c < 48
      · have HN : Hid (none = o) := (rd_bad HD.out HC.out (by omega)).symm.trans H.out
        go_wp2
        go_ret2
        exact ⟨by rw [← HN.out]; rfl, rfl⟩
      by_cases h2 : 57 < c
      · have HN : Hid (none = o) := (rd_bad HD.out HC.out (by omega)).symm.trans H.out
        go_wp2
        go_ret2
        exact ⟨by rw [← HN.out]; rfl, rfl⟩
      by_cases h3 : (n : Int) * 10 + (c - 48) < 18446744073709551616
      · have HN : Hid (rd ((n : Int) * 10 + (c - 48)).toNat ((lst s).drop (k + 1)) = o) := (rd_good HD.out HC.out (by omega) (by omega) h3).symm.trans H.out
        have hq : ¬ (18446744073709551615 - (c - 48)) / 10 < (n : Int) := by omega
        go_wp2
        go_roundg (gk - 1)
        case measure => have := HK.out; omega
        case rel => exact ⟨rfl, k + 1, ((n : Int) * 10 + (c - 48)).toNat, by have := HK.out; omega, by go_num, by go_num, by omega, HN⟩
      · have HN : Hid (none = o) := (rd_bad HD.out HC.out (by omega)).symm.trans H.out
        have hq : (18446744073709551615 - (c - 48)) / 10 < (n : Int) := by omega
        go_wp2
        go_ret2
        exact ⟨by rw [← HN.out]; rfl, rfl⟩
    · have HN : Hid (some n = o) := by
        have := H.out
        rw [List.drop_eq_nil_of_le (by simp; omega)] at this
        exact this
      go_wp2
      go_ret2
      exact ⟨by rw [← HN.out]; rfl, rfl⟩
theorem wrap64_in (n : Int) : -9223372036854775808 ≤ wrap64 n ∧ wrap64 n < 9223372036854775808 := by unfold wrap64; omega
theorem refParse_minus_none (s : ByteArray) (w : World) (hs : s.size ≤ maxLen) (h0 : 0 < s.size) (hc : ((s[0]'h0).toNat : Int) = 45) (ho : cursorL ((lst s).tail) = none) :
    Calls Tryz.prog 69 #[.string s] w fun e w' => e = .returned (i64R none) ∧ w' = w := by
  have HX : Hid ((s.extract 1 s.size).size ≤ maxLen) := by
    have : (s.extract 1 s.size).size ≤ s.size := by simp
    show _ ≤ _
    omega
  have HN : Hid (cursorL (lst (s.extract 1 s.size)) = none) := by
    show _ = _
    rw [tail_at]; exact ho
  clear ho
  unfold maxLen at hs
  go_enter Tryz.func69, Tryz.ntmps69
  go_wp2_with (first | (go_at_call 109; refine (refCursor_any _ _ HX.out _ HN.out).mono ?_; rintro e w ⟨rfl, rfl⟩; dsimp only [u64R, Option.getD_none, Option.isSome_none]))
  go_ret2
  exact ⟨rfl, rfl⟩
theorem refParse_minus_yes (s : ByteArray) (w : World) (hs : s.size ≤ maxLen) (h0 : 0 < s.size) (hc : ((s[0]'h0).toNat : Int) = 45) (u : Nat) (ho : cursorL ((lst s).tail) = some u) (v : Int) (hv : wrap64 (-(wrap64 (u : Int))) = v) (b : ByteArray) (hb : bs (fmtL v) = b) (he : (b.toList == s.toList) = true) :
    Calls Tryz.prog 69 #[.string s] w fun e w' => e = .returned (i64R (some v)) ∧ w' = w := by
  have HX : Hid ((s.extract 1 s.size).size ≤ maxLen) := by
    have : (s.extract 1 s.size).size ≤ s.size := by simp
    show _ ≤ _
    omega
  have HN : Hid (cursorL (lst (s.extract 1 s.size)) = (some u)) := by
    show _ = _
    rw [tail_at]; exact ho
  have HF := fun w => refFormat_any v w (by rw [← hv]; exact (wrap64_in _).1) (by rw [← hv]; exact (wrap64_in _).2)
  rw [hb] at HF
  clear ho hb
  unfold maxLen at hs
  go_enter Tryz.func69, Tryz.ntmps69
  go_wp2_with (first | (go_at_call 109; refine (refCursor_any _ _ HX.out _ HN.out).mono ?_; rintro e w ⟨rfl, rfl⟩; dsimp only [u64R, Option.getD_some, Option.isSome_some]) | (go_at_call 110; refine (HF _).mono ?_; rintro e w ⟨rfl, rfl⟩))
  go_ret2
  exact ⟨rfl, rfl⟩
theorem refParse_minus_no (s : ByteArray) (w : World) (hs : s.size ≤ maxLen) (h0 : 0 < s.size) (hc : ((s[0]'h0).toNat : Int) = 45) (u : Nat) (ho : cursorL ((lst s).tail) = some u) (v : Int) (hv : wrap64 (-(wrap64 (u : Int))) = v) (b : ByteArray) (hb : bs (fmtL v) = b) (he : (b.toList == s.toList) = false) :
    Calls Tryz.prog 69 #[.string s] w fun e w' => e = .returned (i64R none) ∧ w' = w := by
  have HX : Hid ((s.extract 1 s.size).size ≤ maxLen) := by
    have : (s.extract 1 s.size).size ≤ s.size := by simp
    show _ ≤ _
    omega
  have HN : Hid (cursorL (lst (s.extract 1 s.size)) = (some u)) := by
    show _ = _
    rw [tail_at]; exact ho
  have HF := fun w => refFormat_any v w (by rw [← hv]; exact (wrap64_in _).1) (by rw [← hv]; exact (wrap64_in _).2)
  rw [hb] at HF
  clear ho hb
  unfold maxLen at hs
  go_enter Tryz.func69, Tryz.ntmps69
  go_wp2_with (first | (go_at_call 109; refine (refCursor_any _ _ HX.out _ HN.out).mono ?_; rintro e w ⟨rfl, rfl⟩; dsimp only [u64R, Option.getD_some, Option.isSome_some]) | (go_at_call 110; refine (HF _).mono ?_; rintro e w ⟨rfl, rfl⟩))
  go_ret2
  exact ⟨rfl, rfl⟩
theorem refParse_plain_none (s : ByteArray) (w : World) (hs : s.size ≤ maxLen) (h0 : 0 < s.size) (c : Int) (hc : ((s[0]'h0).toNat : Int) = c) (hq : (c == 45) = false) (ho : cursorL (lst s) = none) :
    Calls Tryz.prog 69 #[.string s] w fun e w' => e = .returned (i64R none) ∧ w' = w := by
  have HX : Hid (s.size ≤ maxLen) := hs
  have HN : Hid (cursorL (lst s) = none) := ho
  clear ho
  unfold maxLen at hs
  go_enter Tryz.func69, Tryz.ntmps69
  go_wp2_with (first | (go_at_call 109; refine (refCursor_any _ _ HX.out _ HN.out).mono ?_; rintro e w ⟨rfl, rfl⟩; dsimp only [u64R, Option.getD_none, Option.isSome_none]))
  go_ret2
  exact ⟨rfl, rfl⟩
theorem refParse_plain_yes (s : ByteArray) (w : World) (hs : s.size ≤ maxLen) (h0 : 0 < s.size) (c : Int) (hc : ((s[0]'h0).toNat : Int) = c) (hq : (c == 45) = false) (u : Nat) (ho : cursorL (lst s) = some u) (v : Int) (hv : wrap64 (u : Int) = v) (b : ByteArray) (hb : bs (fmtL v) = b) (he : (b.toList == s.toList) = true) :
    Calls Tryz.prog 69 #[.string s] w fun e w' => e = .returned (i64R (some v)) ∧ w' = w := by
  have HX : Hid (s.size ≤ maxLen) := hs
  have HN : Hid (cursorL (lst s) = (some u)) := ho
  have HF := fun w => refFormat_any v w (by rw [← hv]; exact (wrap64_in _).1) (by rw [← hv]; exact (wrap64_in _).2)
  rw [hb] at HF
  clear ho hb
  unfold maxLen at hs
  go_enter Tryz.func69, Tryz.ntmps69
  go_wp2_with (first | (go_at_call 109; refine (refCursor_any _ _ HX.out _ HN.out).mono ?_; rintro e w ⟨rfl, rfl⟩; dsimp only [u64R, Option.getD_some, Option.isSome_some]) | (go_at_call 110; refine (HF _).mono ?_; rintro e w ⟨rfl, rfl⟩))
  go_ret2
  exact ⟨rfl, rfl⟩
theorem refParse_plain_no (s : ByteArray) (w : World) (hs : s.size ≤ maxLen) (h0 : 0 < s.size) (c : Int) (hc : ((s[0]'h0).toNat : Int) = c) (hq : (c == 45) = false) (u : Nat) (ho : cursorL (lst s) = some u) (v : Int) (hv : wrap64 (u : Int) = v) (b : ByteArray) (hb : bs (fmtL v) = b) (he : (b.toList == s.toList) = false) :
    Calls Tryz.prog 69 #[.string s] w fun e w' => e = .returned (i64R none) ∧ w' = w := by
  have HX : Hid (s.size ≤ maxLen) := hs
  have HN : Hid (cursorL (lst s) = (some u)) := ho
  have HF := fun w => refFormat_any v w (by rw [← hv]; exact (wrap64_in _).1) (by rw [← hv]; exact (wrap64_in _).2)
  rw [hb] at HF
  clear ho hb
  unfold maxLen at hs
  go_enter Tryz.func69, Tryz.ntmps69
  go_wp2_with (first | (go_at_call 109; refine (refCursor_any _ _ HX.out _ HN.out).mono ?_; rintro e w ⟨rfl, rfl⟩; dsimp only [u64R, Option.getD_some, Option.isSome_some]) | (go_at_call 110; refine (HF _).mono ?_; rintro e w ⟨rfl, rfl⟩))
  go_ret2
  exact ⟨rfl, rfl⟩
theorem refParse_empty (w : World) : Calls Tryz.prog 69 #[.string ⟨#[]⟩] w fun e w' => e = .returned (i64R none) ∧ w' = w := by
  go_enter Tryz.func69, Tryz.ntmps69
  go_wp2_with (go_at_call 109; refine (refCursor_any _ _ (by decide) none rfl).mono ?_; rintro e w ⟨rfl, rfl⟩; dsimp only [u64R, Option.getD_none, Option.isSome_none])
  go_ret2
  exact ⟨rfl, rfl⟩
theorem toList_beq (a b : ByteArray) : (a.toList == b.toList) = decide (a = b) := by
  rw [ByteArray.toList_eq, ByteArray.toList_eq]
  by_cases h : a = b
  · rw [decide_eq_true h, h]; simp
  · rw [decide_eq_false h, beq_eq_false_iff_ne]
    intro e
    exact h (by rw [← bs_lst a, ← bs_lst b]; exact congrArg bs e)
theorem cursorL_lt {l : List UInt8} {n : Nat} (h : cursorL l = some n) : n < 18446744073709551616 := by
  unfold cursorL at h
  split at h
  · cases h
  · exact digitsL_lt h
theorem refParse_any (s : ByteArray) (w : World) (hs : s.size ≤ maxLen) (o : Option Int) (ho : parseL (lst s) = o) :
    Calls Tryz.prog 69 #[.string s] w fun e w' => e = .returned (i64R o) ∧ w' = w := by
  by_cases h0 : 0 < s.size
  · have hh := head_at s h0
    by_cases hc : ((s[0]'h0).toNat : Int) = 45
    · have hd : (lst s).head? = some 45 := by rw [hh, (byte_eq hc 45 (by omega)).2 rfl]; rfl
      have hl : lst s = 45 :: (lst s).tail := by
        cases hq : lst s with
        | nil => rw [hq] at hd; cases hd
        | cons b r => rw [hq] at hd; have : b = 45 := by simpa using hd
                      rw [this]; rfl
      cases hp : cursorL (lst s).tail with
      | none =>
        have : o = none := by
          rw [← ho]
          cases hv : parseL (lst s) with
          | none => rfl
          | some v =>
            obtain ⟨e, h1, h2⟩ := parseL_some hv
            by_cases hn : v < 0
            · rw [fmtL_neg hn] at e
              rw [e, List.tail_cons, cursorL_dec (by omega)] at hp
              cases hp
            · rw [e, fmtL_pos hn] at hd
              exact absurd hd (dec_head45 _)
        subst this
        exact refParse_minus_none s w hs h0 hc hp
      | some u =>
        have hu := cursorL_lt hp
        by_cases he : bs (fmtL (wrap64 (-(wrap64 (u : Int))))) = s
        · have : o = some (wrap64 (-(wrap64 (u : Int)))) := by
            rw [← ho, ← parseL_fmtL (wrap64_in (-(wrap64 (u : Int)))).1 (wrap64_in (-(wrap64 (u : Int)))).2, ← congrArg lst he, lst_bs]
          subst this
          exact refParse_minus_yes s w hs h0 hc u hp _ rfl _ rfl (by rw [toList_beq, decide_eq_true he])
        · have : o = none := by
            rw [← ho]
            cases hv : parseL (lst s) with
            | none => rfl
            | some v =>
              obtain ⟨e, h1, h2⟩ := parseL_some hv
              by_cases hn : v < 0
              · have e' := e
                rw [fmtL_neg hn] at e
                rw [e, List.tail_cons, cursorL_dec (by omega)] at hp
                have hu' : (-v).toNat = u := Option.some.inj hp
                refine absurd ?_ he
                rw [show wrap64 (-(wrap64 (u : Int))) = v by unfold wrap64; omega, ← e', bs_lst]
              · rw [e, fmtL_pos hn] at hd
                exact absurd hd (dec_head45 _)
          subst this
          exact refParse_minus_no s w hs h0 hc u hp _ rfl _ rfl (by rw [toList_beq, decide_eq_false he])
    · have hd : (lst s).head? ≠ some 45 := by
        intro h2
        rw [hh] at h2
        exact hc ((byte_eq rfl 45 (by omega)).1 (Option.some.inj h2))
      have hq : (((s[0]'h0).toNat : Int) == 45) = false := by simpa using hc
      cases hp : cursorL (lst s) with
      | none =>
        have : o = none := by
          rw [← ho]
          cases hv : parseL (lst s) with
          | none => rfl
          | some v =>
            obtain ⟨e, h1, h2⟩ := parseL_some hv
            by_cases hn : v < 0
            · rw [e, fmtL_neg hn] at hd
              exact absurd rfl hd
            · rw [fmtL_pos hn] at e
              rw [e, cursorL_dec (by omega)] at hp
              cases hp
        subst this
        exact refParse_plain_none s w hs h0 _ rfl hq hp
      | some u =>
        have hu := cursorL_lt hp
        by_cases he : bs (fmtL (wrap64 (u : Int))) = s
        · have : o = some (wrap64 (u : Int)) := by
            rw [← ho, ← parseL_fmtL (wrap64_in (u : Int)).1 (wrap64_in (u : Int)).2, ← congrArg lst he, lst_bs]
          subst this
          exact refParse_plain_yes s w hs h0 _ rfl hq u hp _ rfl _ rfl (by rw [toList_beq, decide_eq_true he])
        · have : o = none := by
            rw [← ho]
            cases hv : parseL (lst s) with
            | none => rfl
            | some v =>
              obtain ⟨e, h1, h2⟩ := parseL_some hv
              by_cases hn : v < 0
              · rw [e, fmtL_neg hn] at hd
                exact absurd rfl hd
              · have e' := e
                rw [fmtL_pos hn] at e
                rw [e, cursorL_dec (by omega)] at hp
                have hu' : v.toNat = u := Option.some.inj hp
                refine absurd ?_ he
                rw [show wrap64 (u : Int) = v by unfold wrap64; omega, ← e', bs_lst]
          subst this
          exact refParse_plain_no s w hs h0 _ rfl hq u hp _ rfl _ rfl (by rw [toList_beq, decide_eq_false he])
  · have hl : lst s = [] := List.length_eq_zero_iff.1 (by rw [Array.length_toList]; show s.size = 0; omega)
    have hz : s = ⟨#[]⟩ := by rw [← bs_lst s, hl]; rfl
    subst hz
    rw [← ho]
    exact refParse_empty w
end Go.Proofs.YtikimcbalkhooaaGreatDoor
namespace Go.Proofs.YtikimcbalkhooaaGreatDoor
/-- The k lowest bytes of a number, the highest first. -/
def be : Nat → Nat → List UInt8
  | 0, _ => []
  | k + 1, u => UInt8.ofNat (u / 2 ^ (8 * k)) :: be k u
/-- A row of bytes as a number. -/
def val (v : Nat) : List UInt8 → Nat
  | [] => v
  | b :: r => val (v * 256 + b.toNat) r
/-- A number of 64 bits with its sign. -/
def sgn (u : Nat) : Int := if u < 9223372036854775808 then (u : Int) else (u : Int) - 18446744073709551616
/-- ... and back. -/
def uns (n : Int) : Nat := (n % 18446744073709551616).toNat
theorem be_len (u : Nat) : ∀ k, (be k u).length = k
  | 0 => rfl
  | k + 1 => by rw [be, List.length_cons, be_len u k]
theorem val_lt : ∀ (l : List UInt8) (v : Nat), val v l < (v + 1) * 256 ^ l.length
  | [], v => by simp [val]
  | b :: r, v => by
    have h := val_lt r (v * 256 + b.toNat)
    have hb := b.toNat_lt
    rw [val, List.length_cons, Nat.pow_succ]
    have : (v * 256 + b.toNat + 1) * 256 ^ r.length ≤ ((v + 1) * 256) * 256 ^ r.length := Nat.mul_le_mul_right _ (by omega)
    have e : (v + 1) * 256 * 256 ^ r.length = (v + 1) * (256 ^ r.length * 256) := by rw [Nat.mul_assoc, Nat.mul_comm 256]
    omega
theorem val_inj : ∀ (l r : List UInt8) (v w : Nat), l.length = r.length → val v l = val w r → v = w ∧ l = r
  | [], [], v, w, _, h => ⟨h, rfl⟩
  | x :: l, y :: r, v, w, hl, h => by
    obtain ⟨h1, h2⟩ := val_inj l r _ _ (by simpa using hl) h
    have := x.toNat_lt
    have := y.toNat_lt
    have h3 : x.toNat = y.toNat := by omega
    refine ⟨by omega, ?_⟩
    rw [h2, UInt8.toNat_inj.1 h3]
/-- P4.1: the body of a text. -/
def body (l : List UInt8) : List UInt8 :=
  match parseL l with
  | some n => if 0 ≤ n ∧ n ≤ 127 then [UInt8.ofNat n.toNat] else 241 :: be 8 (uns n)
  | none => if l.length ≤ 63 then UInt8.ofNat (128 + l.length) :: l else 224 :: UInt8.ofNat (l.length / 256) :: UInt8.ofNat l.length :: l
def back (n : Nat) : List UInt8 := if n < 128 then [UInt8.ofNat n] else [UInt8.ofNat (n / 128), UInt8.ofNat (128 + n % 128)]
def enc (l : List UInt8) : List UInt8 := body l ++ back (body l).length
theorem body_small {l : List UInt8} {n : Int} (h : parseL l = some n) (h1 : 0 ≤ n ∧ n ≤ 127) : body l = [UInt8.ofNat n.toNat] := by unfold body; rw [h]; simp only [h1, and_self, if_true]
theorem body_wide {l : List UInt8} {n : Int} (h : parseL l = some n) (h1 : ¬ (0 ≤ n ∧ n ≤ 127)) : body l = 241 :: be 8 (uns n) := by unfold body; rw [h]; simp only [h1, if_false]
theorem body_short {l : List UInt8} (h : parseL l = none) (h1 : l.length ≤ 63) : body l = UInt8.ofNat (128 + l.length) :: l := by unfold body; rw [h]; simp only [h1, if_true]
theorem body_long {l : List UInt8} (h : parseL l = none) (h1 : ¬ l.length ≤ 63) : body l = 224 :: UInt8.ofNat (l.length / 256) :: UInt8.ofNat l.length :: l := by unfold body; rw [h]; simp only [h1, if_false]
/-- The four ways of a body. -/
theorem body_ways (l : List UInt8) :
    (∃ n, parseL l = some n ∧ (0 ≤ n ∧ n ≤ 127) ∧ body l = [UInt8.ofNat n.toNat]) ∨ (∃ n, parseL l = some n ∧ ¬ (0 ≤ n ∧ n ≤ 127) ∧ body l = 241 :: be 8 (uns n)) ∨
    (parseL l = none ∧ l.length ≤ 63 ∧ body l = UInt8.ofNat (128 + l.length) :: l) ∨ (parseL l = none ∧ ¬ l.length ≤ 63 ∧ body l = 224 :: UInt8.ofNat (l.length / 256) :: UInt8.ofNat l.length :: l) := by
  cases h : parseL l with
  | some n =>
    by_cases h1 : 0 ≤ n ∧ n ≤ 127
    · exact .inl ⟨n, rfl, h1, body_small h h1⟩
    · exact .inr (.inl ⟨n, rfl, h1, body_wide h h1⟩)
  | none =>
    by_cases h1 : l.length ≤ 63
    · exact .inr (.inr (.inl ⟨rfl, h1, body_short h h1⟩))
    · exact .inr (.inr (.inr ⟨rfl, h1, body_long h h1⟩))
theorem back_len (n : Nat) : (back n).length = if n < 128 then 1 else 2 := by unfold back; split <;> rfl
/-- So many bytes of a row, if it has them. -/
def tk (n : Nat) (r : List UInt8) : Option (List UInt8) := if r.length < n then none else some (r.take n)
/-- The text that a body at the beginning would be. -/
def text (b : List UInt8) : Option (List UInt8) :=
  match b with
  | [] => none
  | x :: r =>
    if x.toNat < 128 then some (fmtL x.toNat)
    else if x.toNat ≤ 191 then tk (x.toNat - 128) r
    else if x.toNat = 224 ∧ 2 ≤ r.length then tk ((r.getD 0 0).toNat * 256 + (r.getD 1 0).toNat) (r.drop 2)
    else if x.toNat = 241 ∧ 8 ≤ r.length then some (fmtL (sgn (val 0 (r.take 8))))
    else none
/-- The text, and how long the body is. -/
def dtext (b : List UInt8) (h n : Nat) : Option (List UInt8 × Nat) :=
  if b.length < h + n then none else if (parseL ((b.drop h).take n)).isSome then none else some ((b.drop h).take n, h + n)
def dbody (b : List UInt8) : Option (List UInt8 × Nat) :=
  match b with
  | [] => none
  | x :: r =>
    if x.toNat < 128 then some (fmtL x.toNat, 1)
    else if x.toNat = 241 then
      if r.length < 8 then none
      else if 0 ≤ sgn (val 0 (r.take 8)) ∧ sgn (val 0 (r.take 8)) < 128 then none else some (fmtL (sgn (val 0 (r.take 8))), 9)
    else if x.toNat = 224 then
      if r.length < 2 then none
      else if (r.getD 0 0).toNat * 256 + (r.getD 1 0).toNat ≤ 63 ∨ 4096 < (r.getD 0 0).toNat * 256 + (r.getD 1 0).toNat then none
      else dtext b 3 ((r.getD 0 0).toNat * 256 + (r.getD 1 0).toNat)
    else if x.toNat ≤ 191 then dtext b 1 (x.toNat - 128)
    else none
/-- Does a row begin so? -/
def pre (p l : List UInt8) : Bool := decide (l.take p.length = p)
/-- P4.2 as the program goes, at the beginning of a row: the text, and how long its entry is. -/
def dec1 (b : List UInt8) : Option (List UInt8 × Nat) :=
  match dbody b with
  | none => none
  | some (s, k) => if pre (back k) (b.drop k) then some (s, k + (back k).length) else none
end Go.Proofs.YtikimcbalkhooaaGreatDoor
namespace Go.Proofs.YtikimcbalkhooaaGreatDoor
open Go.RowKit Go.PlainAid
theorem len_lst (s : ByteArray) : (lst s).length = s.size := rfl
theorem below_drewN (w : World) : ∀ n, Below w.heap.size w (w.drewN n)
  | 0 => Below.refl _ _
  | n + 1 => (below_drewN w n).drew
theorem step_below {w w1 w2 : World} (h : Hid (Below w.heap.size w w1)) (hb : Below w1.heap.size w1 w2) : Hid (Below w.heap.size w w2) := h.out.trans (hb.mono h.out.size)
/-- A slice that reads the bytes l. -/
structure Rd (w : World) (a : Option Addr) (n cap : Nat) (l : List UInt8) : Prop where
  len : l.length = n
  fit : n ≤ cap
  max : cap ≤ maxLen
  nul : a = none → cap = 0
  cell : ∀ j, j < n → ∃ b off, a = some ⟨b, off, none⟩ ∧ w.cell? ⟨b, off + j, none⟩ = some (.int .u8 ((l.getD j 0).toNat : Nat))
theorem Rd.keep {w wn : World} {a : Option Addr} {n cap : Nat} {l : List UInt8} (h : Rd w a n cap l) (hb : Below w.heap.size w wn) : Rd wn a n cap l :=
  ⟨h.len, h.fit, h.max, h.nul, fun j hj => by
    obtain ⟨b, off, e, hc⟩ := h.cell j hj
    exact ⟨b, off, e, by rw [hb.cell (p := ⟨b, off + j, none⟩) (World.block_lt_of_cell? _ _ hc)]; exact hc⟩⟩
theorem Rd.nil (w : World) : Rd w none 0 0 [] := ⟨rfl, Nat.le_refl _, by decide, fun _ => rfl, fun j hj => absurd hj (Nat.not_lt_zero _)⟩
theorem add_flat (b off j : Nat) : (⟨b, off, none⟩ : Addr).add j = ⟨b, off + j, none⟩ := by simp only [Addr.add]; split <;> simp_all
/-- string(b). -/
theorem Rd.text {w : World} {a : Option Addr} {n cap : Nat} {l : List UInt8} (h : Rd w a n cap l) : (convert 31 9 (.slice a n cap)).run Tryz.prog w = .ok (.string (bs l)) w := by
  have hn := h.len
  subst hn
  cases a with
  | none =>
    have h0 : l = [] := by
      cases l with
      | nil => rfl
      | cons x r =>
        obtain ⟨b, off, e, -⟩ := h.cell 0 (by simp)
        cases e
    subst h0
    rw [run_convert_bytes_string w 31 9 5 none _ cap Tryz.underlying31 Tryz.underlying5 Tryz.underlying9]
    rfl
  | some a =>
    refine run_convert_bytes_back (P := Tryz.prog) w 31 9 5 a cap l Tryz.underlying31 Tryz.underlying5 Tryz.underlying9 fun j hj => ?_
    obtain ⟨b, off, e, hc⟩ := h.cell j hj
    cases e
    rw [add_flat, hc, List.getD_eq_getElem?_getD, List.getElem?_eq_getElem hj, Option.getD_some]
/-- A row's bytes as cells. -/
def cells (l : List UInt8) : List Value := l.map fun b => Value.int .u8 b.toNat
/-- A row of bytes of the call's own, from block B on. -/
def Own (w : World) (B : Nat) (a : Option Addr) (n cap : Nat) (l : List UInt8) : Prop := w.ownsRow B 5 1 (.slice a n cap) n (cells l)
theorem Own.len {w : World} {B : Nat} {a : Option Addr} {n cap : Nat} {l : List UInt8} (h : Own w B a n cap l) : l.length = n := by
  have := h.1; simpa [cells] using this
theorem Own.low {w : World} {B C : Nat} {a : Option Addr} {n cap : Nat} {l : List UInt8} (h : Own w B a n cap l) (hC : C ≤ B) : Own w C a n cap l := by
  refine ⟨h.1, ?_⟩
  rcases h.2 with h2 | ⟨g, c, cur, h1, h3, h4⟩
  · exact .inl h2
  · exact .inr ⟨g, c, cur, h1, Nat.le_trans hC h3, h4⟩
theorem Own.keep {w wn : World} {B : Nat} {a : Option Addr} {n cap : Nat} {l : List UInt8} (h : Own w B a n cap l) (hb : Below w.heap.size w wn) : Own wn B a n cap l := by
  refine ⟨h.1, ?_⟩
  rcases h.2 with h2 | ⟨g, c, cur, h1, h3, h4, h5⟩
  · exact .inl h2
  · refine .inr ⟨g, c, cur, h1, h3, ?_, h5⟩
    rw [hb.block g (Array.getElem?_eq_some_iff.1 h4).1]; exact h4
theorem Own.nil (w : World) (B : Nat) : Own w B none 0 0 [] := World.ownsRow_nil w B 5 1
theorem Own.rd {w : World} {B : Nat} {a : Option Addr} {n cap : Nat} {l : List UInt8} (h : Own w B a n cap l) : Rd w a n cap l := by
  have hl := h.len
  rcases h.2 with ⟨h2, h3⟩ | ⟨g, c, cur, h1, h3, h4, h5, h6, h7, h8⟩
  · cases h2
    have : l = [] := List.length_eq_zero_iff.1 (by omega)
    subst this
    exact Rd.nil w
  · cases h1
    refine Rd.mk hl h5 h6 (fun e => nomatch e) (fun j hj => ⟨g, 0, rfl, ?_⟩)
    have := h.cells (g := g) rfl j (.int .u8 ((l.getD j 0).toNat : Nat)) (by
      simp only [cells, List.getElem?_map, List.getD_eq_getElem?_getD]
      rw [List.getElem?_eq_getElem (by omega)]; rfl)
    rw [add_flat] at this
    rw [Nat.zero_add] at this ⊢
    exact this
theorem Own.block {w : World} {B : Nat} {a : Option Addr} {n cap : Nat} {l : List UInt8} (h : Own w B a n cap l) : ∀ k, (Value.slice a n cap).ownBlock = some k → B ≤ k := fun k hk => (h.lt k hk).1
/-- A row that was made in its place. -/
theorem Own.made (w : World) (l : List UInt8) (B n : Nat) (hn : l.length = n) (hB : B ≤ w.heap.size) (hm : n ≤ maxLen) : Own (w.alloc (.cells (cells l).toArray 5)) B (some ⟨w.heap.size, 0, none⟩) n n l := by
  refine ⟨by simp [cells, hn], .inr ⟨w.heap.size, n, (cells l).toArray, rfl, hB, heap_alloc_new w _, Nat.le_refl _, hm, by simp [cells, hn], ?_⟩⟩
  rw [List.take_of_length_le (by simp [cells, hn])]
theorem Tryz.info5 : (Tryz.prog.info? 5).map (fun i => (i.zero, i.size, i.bytes)) = some (some (.int .u8 0), 1, 1) := by kernel_rfl
theorem Rd.one (w : World) (x : Int) (b : UInt8) (h : (b.toNat : Int) = x) : Rd (w.alloc (.cells #[.int .u8 x] 5)) (some ⟨w.heap.size, 0, none⟩) 1 1 [b] := by
  have := (Own.made w [b] w.heap.size 1 rfl (Nat.le_refl _) (by decide)).rd
  rw [show cells [b] = [.int .u8 x] by simp [cells, h]] at this
  exact this
theorem alloc_below (w : World) (o : Obj) : Below w.heap.size w (w.alloc o) := (Below.refl _ _).alloc (Nat.le_refl _) o
theorem Rd.two (w : World) (x y : Int) (b c : UInt8) (h : (b.toNat : Int) = x) (h' : (c.toNat : Int) = y) : Rd (w.alloc (.cells #[.int .u8 x, .int .u8 y] 5)) (some ⟨w.heap.size, 0, none⟩) 2 2 [b, c] := by
  have := (Own.made w [b, c] w.heap.size 2 rfl (Nat.le_refl _) (by decide)).rd
  rw [show cells [b, c] = [.int .u8 x, .int .u8 y] by simp [cells, h, h']] at this
  exact this
/-- A slice that reads the texts ls. -/
structure RdS (w : World) (a : Option Addr) (n : Nat) (ls : List ByteArray) : Prop where
  len : ls.length = n
  max : n ≤ maxLen
  cell : ∀ j, j < n → ∃ b off, a = some ⟨b, off, none⟩ ∧ w.cell? ⟨b, off + j, none⟩ = some (.string (ls.getD j ByteArray.empty))
theorem RdS.keep {w wn : World} {a : Option Addr} {n : Nat} {ls : List ByteArray} (h : RdS w a n ls) (hb : Below w.heap.size w wn) : RdS wn a n ls :=
  ⟨h.len, h.max, fun j hj => by
    obtain ⟨b, off, e, hc⟩ := h.cell j hj
    exact ⟨b, off, e, by rw [hb.cell (p := ⟨b, off + j, none⟩) (World.block_lt_of_cell? _ _ hc)]; exact hc⟩⟩
/-- A row of texts of the call's own. -/
def OwnS (w : World) (B : Nat) (a : Option Addr) (n cap : Nat) (ls : List ByteArray) : Prop := w.ownsRow B 9 1 (.slice a n cap) n (ls.map Value.string)
theorem OwnS.len {w : World} {B : Nat} {a : Option Addr} {n cap : Nat} {ls : List ByteArray} (h : OwnS w B a n cap ls) : ls.length = n := by
  have := h.1; simpa using this
theorem OwnS.keep {w wn : World} {B : Nat} {a : Option Addr} {n cap : Nat} {l : List ByteArray} (h : OwnS w B a n cap l) (hb : Below w.heap.size w wn) : OwnS wn B a n cap l := by
  refine ⟨h.1, ?_⟩
  rcases h.2 with h2 | ⟨g, c, cur, h1, h3, h4, h5⟩
  · exact .inl h2
  · refine .inr ⟨g, c, cur, h1, h3, ?_, h5⟩
    rw [hb.block g (Array.getElem?_eq_some_iff.1 h4).1]; exact h4
theorem OwnS.rd {w : World} {B : Nat} {a : Option Addr} {n cap : Nat} {ls : List ByteArray} (h : OwnS w B a n cap ls) : RdS w a n ls := by
  have hl := h.len
  rcases h.2 with ⟨h2, h3⟩ | ⟨g, c, cur, h1, h3, h4, h5, h6, h7, h8⟩
  · cases h2
    exact RdS.mk hl (by rw [h3]; decide) (fun j hj => absurd hj (by omega))
  · cases h1
    refine RdS.mk hl (Nat.le_trans h5 h6) (fun j hj => ⟨g, 0, rfl, ?_⟩)
    have := h.cells (g := g) rfl j (.string (ls.getD j ByteArray.empty)) (by
      simp only [List.getElem?_map, List.getD_eq_getElem?_getD]
      rw [List.getElem?_eq_getElem (by omega)]; rfl)
    rw [add_flat] at this
    rw [Nat.zero_add] at this ⊢
    exact this
/-- A pack's bytes. -/
def pack : List ByteArray → List UInt8
  | [] => []
  | s :: r => enc (lst s) ++ pack r
theorem short_get {ls : List ByteArray} {m : Nat} (h : ∀ s ∈ ls, s.size ≤ m) (k : Nat) (hk : k < ls.length) : (ls.getD k ByteArray.empty).size ≤ m := by
  apply h
  rw [List.getD_eq_getElem?_getD, List.getElem?_eq_getElem hk]
  simp
/-- Block g has these cells. -/
def Bk (w : World) (g : Nat) (cur : List Value) : Prop := w.heap[g]? = some (.cells cur.toArray 5 (0, 0))
theorem Bk.lt {w : World} {g : Nat} {cur : List Value} (h : Bk w g cur) : g < w.heap.size := (Array.getElem?_eq_some_iff.1 h).1
theorem Bk.cell {w : World} {g : Nat} {cur : List Value} (h : Bk w g cur) (j : Nat) : w.cell? ⟨g, j, none⟩ = cur[j]? := by
  have h' : w.heap[g]? = some (.cells cur.toArray 5 (0, 0)) := h
  simp [World.cell?, h']
theorem Bk.frozen {w : World} {g : Nat} {cur : List Value} (h : Bk w g cur) (j : Nat) : w.frozen? ⟨g, j, none⟩ = false := by
  have h' : w.heap[g]? = some (.cells cur.toArray 5 (0, 0)) := h
  simp [World.frozen?, h']
theorem Bk.drew {w : World} {g : Nat} {cur : List Value} (h : Bk w g cur) : Bk w.drew g cur := h
theorem Bk.keep {w w' : World} {g : Nat} {cur : List Value} {row : Option Nat} (h : Bk w g cur) (hg : w.grownBy w' row) (hne : some g ≠ row) : Bk w' g cur := by
  show _ = _
  rw [hg.block g h.lt hne]; exact h
theorem below_grown {w w' : World} (h : Below w.heap.size w w') (row : Option Nat) : w.grownBy w' row := ⟨h.os, h.tape, h.output, h.size, fun k hk _ => h.block k hk⟩
theorem Own.parts {w : World} {B : Nat} {a : Option Addr} {n c : Nat} {l : List UInt8} (h : Own w B a n c l) (h0 : 0 < n) :
    ∃ g cur, a = some ⟨g, 0, none⟩ ∧ B ≤ g ∧ Bk w g cur ∧ n ≤ c ∧ c ≤ maxLen ∧ cur.length = c ∧ cur.take n = cells l := by
  rcases h.2 with ⟨h2, h3⟩ | ⟨g, c', cur, h1, h3, h4, h5, h6, h7, h8⟩
  · omega
  · cases h1
    refine ⟨g, cur.toList, rfl, h3, by show _ = _; simpa using h4, h5, h6, by simpa using h7, ?_⟩
    simpa using h8
/-- A row lies where it was, or in new memory. -/
def Went (w : World) (a a2 : Option Addr) : Prop := a2 = a ∨ ∃ b, a2 = some ⟨b, 0, none⟩ ∧ w.heap.size ≤ b
theorem Went.blk {w : World} {a a2 : Option Addr} (h : Went w a a2) {k : Nat} (hk : a2.map (·.block) = some k) : a.map (·.block) = some k ∨ w.heap.size ≤ k := by
  rcases h with rfl | ⟨b, rfl, hb⟩
  · exact .inl hk
  · cases hk; exact .inr hb
theorem Bk.drewN {w : World} {g : Nat} {cur : List Value} (h : Bk w g cur) (q : Nat) : Bk (w.drewN q) g cur := h.keep (below_grown (below_drewN w q) none) (by simp)
end Go.Proofs.YtikimcbalkhooaaGreatDoor
namespace Go.Proofs.YtikimcbalkhooaaGreatDoor
/-- Where the i-th text begins. -/
def off (ls : List ByteArray) (i : Nat) : Nat := (pack (ls.take i)).length
/-- No text is too long. -/
def Fit (ls : List ByteArray) : Prop := ∀ s ∈ ls, s.size ≤ 4096
def txt (ls : List ByteArray) (i : Nat) : ByteArray := ls.getD i ByteArray.empty
theorem Fit.at {ls : List ByteArray} (h : Fit ls) {i : Nat} (hi : i < ls.length) : (txt ls i).size ≤ 4096 := short_get h i hi
/-- The texts that a row of bytes has, if it is a pack's. -/
def split : Nat → List UInt8 → Option (List ByteArray)
  | _, [] => some []
  | 0, _ :: _ => none
  | f + 1, x :: r => match dec1 (x :: r) with
    | none => none
    | some (s, k) => (split f ((x :: r).drop k)).map (bs s :: ·)
end Go.Proofs.YtikimcbalkhooaaGreatDoor
namespace Go.Proofs.YtikimcbalkhooaaGreatDoor
open Go.RowKit Go.PlainAid
/-- Block p is a pack that has the texts ls. -/
structure Pk (w : World) (B p : Nat) (a : Option Addr) (n c : Nat) (ls : List ByteArray) : Prop where
  blk : w.heap[p]? = some (.cells #[.slice a n c, .int .i64 (ls.length : Nat)] 120 (0, 0))
  low : B ≤ p
  own : Own w B a n c (pack ls)
theorem Pk.cell {w : World} {B p : Nat} {a : Option Addr} {n c : Nat} {ls : List ByteArray} (h : Pk w B p a n c ls) : w.cell? ⟨p, 0, none⟩ = some (.slice a n c) := by simp [World.cell?, h.blk]
theorem Pk.cnt {w : World} {B p : Nat} {a : Option Addr} {n c : Nat} {ls : List ByteArray} (h : Pk w B p a n c ls) : w.cell? ⟨p, 1, none⟩ = some (.int .i64 (ls.length : Nat)) := by simp [World.cell?, h.blk]
theorem Pk.frozen {w : World} {B p : Nat} {a : Option Addr} {n c : Nat} {ls : List ByteArray} (h : Pk w B p a n c ls) : w.frozen? ⟨p, 0, none⟩ = false := by simp [World.frozen?, h.blk]
theorem Pk.lt {w : World} {B p : Nat} {a : Option Addr} {n c : Nat} {ls : List ByteArray} (h : Pk w B p a n c ls) : p < w.heap.size := (Array.getElem?_eq_some_iff.1 h.blk).1
theorem Pk.keep {w wn : World} {B p : Nat} {a : Option Addr} {n c : Nat} {ls : List ByteArray} (h : Pk w B p a n c ls) (hb : Below w.heap.size w wn) : Pk wn B p a n c ls :=
  ⟨by rw [hb.block p h.lt]; exact h.blk, h.low, h.own.keep hb⟩
theorem Pk.low' {w : World} {B C p : Nat} {a : Option Addr} {n c : Nat} {ls : List ByteArray} (h : Pk w B p a n c ls) (hC : C ≤ B) : Pk w C p a n c ls := ⟨h.blk, Nat.le_trans hC h.low, h.own.low hC⟩
theorem Pk.len {w : World} {B p : Nat} {a : Option Addr} {n c : Nat} {ls : List ByteArray} (h : Pk w B p a n c ls) : (pack ls).length = n := h.own.len
theorem Pk.max {w : World} {B p : Nat} {a : Option Addr} {n c : Nat} {ls : List ByteArray} (h : Pk w B p a n c ls) : n ≤ 9223372036854775807 := Nat.le_trans h.own.rd.fit h.own.rd.max
abbrev ptr (p : Nat) : Value := .pointer (some ⟨p, 0, none⟩)
/-- Over how many texts one comes from the i-th on. -/
def gone (ls : List ByteArray) (i : Nat) (n : Int) : Nat := min n.toNat (ls.length - i)
theorem Len_any (B p : Nat) (a : Option Addr) (n c : Nat) (ls : List ByteArray) (w : World) (hP : Pk w B p a n c ls) :
    Calls Tryz.prog 50 #[ptr p] w fun e w' => e = .returned (.int .i64 (ls.length : Nat)) ∧ w' = w := by
  have hd := hP.cnt
  clear hP
  go_enter Tryz.func50, Tryz.ntmps50
  go_wp2
  go_ret
  exact ⟨rfl, rfl⟩
/-- All is as it was, but for the pack and its row, and what is new. -/
structure Moves (w w' : World) (p : Nat) (a : Option Addr) : Prop where
  os : w'.os = w.os
  tape : w'.tape = w.tape
  output : w'.output = w.output
  size : w.heap.size ≤ w'.heap.size
  block : ∀ k, k < w.heap.size → k ≠ p → some k ≠ a.map (·.block) → w'.heap[k]? = w.heap[k]?
theorem Moves.refl (w : World) (p : Nat) (a : Option Addr) : Moves w w p a := ⟨rfl, rfl, rfl, Nat.le_refl _, fun _ _ _ _ => rfl⟩
theorem Moves.of_below {w w' : World} (h : Below w.heap.size w w') (p : Nat) (a : Option Addr) : Moves w w' p a := ⟨h.os, h.tape, h.output, h.size, fun k hk _ _ => h.block k hk⟩
theorem Moves.below {w w' : World} {B p : Nat} {a : Option Addr} {n c : Nat} {l : List ByteArray} (h : Moves w w' p a) (hP : Pk w B p a n c l) : Below B w w' := by
  refine ⟨h.os, h.tape, h.output, h.size, fun k hk => h.block k (Nat.lt_trans (Nat.lt_of_lt_of_le hk hP.low) hP.lt) (by have := hP.low; omega) ?_⟩
  intro e
  cases a with
  | none => cases e
  | some x =>
    have := hP.own.block x.block rfl
    have e2 : k = x.block := Option.some.inj e
    omega
/-- A row of texts is no pack and no pack's row. -/
theorem OwnS.moves {w w' : World} {B C p : Nat} {a a2 : Option Addr} {n c n2 c2 : Nat} {l ls : List ByteArray} (h : OwnS w C a2 n2 c2 ls) (hm : Moves w w' p a) (hP : Pk w B p a n c l) : OwnS w' C a2 n2 c2 ls := by
  refine ⟨h.1, ?_⟩
  rcases h.2 with h2 | ⟨g, c', cur, h1, h3, h4, h5⟩
  · exact .inl h2
  · refine .inr ⟨g, c', cur, h1, h3, ?_, h5⟩
    rw [hm.block g (Array.getElem?_eq_some_iff.1 h4).1 ?_ ?_]
    · exact h4
    · intro e
      subst e
      rw [hP.blk] at h4
      simp at h4
    · intro e
      cases a with
      | none => cases e
      | some x =>
        cases e
        rcases hP.own.2 with ⟨k2, -⟩ | ⟨g', c3, cur', k1, k3, k4, k5⟩
        · cases k2
        · cases k1
          rw [k4] at h4
          simp at h4
/-- What a call answers that turns a pack. -/
def Turns (w : World) (B p : Nat) (a : Option Addr) (l : List ByteArray) (v : Value) (e : Ending) (w' : World) : Prop :=
  e = .returned v ∧ Moves w w' p a ∧ ∃ a' n' c', Pk w' B p a' n' c' l ∧ Went w a a'
theorem Own.old {w : World} {B : Nat} {a : Option Addr} {n c : Nat} {l : List UInt8} (h : Own w B a n c l) : ∀ x, a = some x → x.block < w.heap.size := by
  intro x hx
  subst hx
  exact (h.lt x.block rfl).2
theorem Own.ne_pk {w : World} {B p : Nat} {a : Option Addr} {n c : Nat} {l : List UInt8} {v : Array Value} (h : Own w B a n c l) (hp : w.heap[p]? = some (.cells v 120 (0, 0))) : some p ≠ a.map (·.block) := by
  intro e
  cases a with
  | none => cases e
  | some x =>
    have e2 : p = x.block := Option.some.inj e
    rcases h.2 with ⟨k2, -⟩ | ⟨g', c3, cur', k1, k3, k4, k5⟩
    · cases k2
    · cases k1
      subst e2
      rw [k4] at hp
      simp at hp
theorem RdS.made (w : World) (ts : List ByteArray) (n : Nat) (hn : ts.length = n) (hm : n ≤ maxLen) (vs : Array Value) (hv : vs = (ts.map Value.string).toArray) : RdS (w.alloc (.cells vs 9)) (some ⟨w.heap.size, 0, none⟩) n ts := by
  subst hv
  refine ⟨hn, hm, fun j hj => ⟨w.heap.size, 0, rfl, ?_⟩⟩
  have h := heap_alloc_new w (.cells (ts.map Value.string).toArray 9)
  simp only [World.cell?, h, Nat.zero_add]
  rw [List.getElem?_toArray, List.getElem?_map, List.getElem?_eq_getElem (by omega), List.getD_eq_getElem?_getD, List.getElem?_eq_getElem (by omega)]
  rfl
/-- What a call answers that makes a pack. -/
def MakesPk (w : World) (l : List ByteArray) (e : Ending) (w' : World) : Prop :=
  Below w.heap.size w w' ∧ ∃ p a n c, e = .returned (ptr p) ∧ Pk w' w.heap.size p a n c l
theorem New_any (w : World) : Calls Tryz.prog 76 #[] w fun e w' => MakesPk w [] e w' := by
  go_enter Tryz.func76, Tryz.ntmps76
  go_wp2
  go_ret
  exact ⟨alloc_below w _, w.heap.size, none, 0, 0, rfl, heap_alloc_new w _, Nat.le_refl _, Own.nil _ _⟩
/-- A slice that reads the texts ls, with its room. -/
structure RdL (w : World) (a : Option Addr) (n cap : Nat) (ls : List ByteArray) : Prop where
  rd : RdS w a n ls
  fit : n ≤ cap
  max : cap ≤ maxLen
  nul : a = none → cap = 0
theorem RdL.keep {w wn : World} {a : Option Addr} {n cap : Nat} {ls : List ByteArray} (h : RdL w a n cap ls) (hb : Below w.heap.size w wn) : RdL wn a n cap ls := ⟨h.rd.keep hb, h.fit, h.max, h.nul⟩
/-- A row of texts that was made in its place. -/
theorem OwnS.made (w : World) (ls : List ByteArray) (B n : Nat) (hn : ls.length = n) (hB : B ≤ w.heap.size) (hm : n ≤ maxLen) (vs : Array Value) (hv : vs = (ls.map Value.string).toArray) : OwnS (w.alloc (.cells vs 9)) B (some ⟨w.heap.size, 0, none⟩) n n ls := by
  subst hv
  refine ⟨by simp [hn], .inr ⟨w.heap.size, n, (ls.map Value.string).toArray, rfl, hB, heap_alloc_new w _, Nat.le_refl _, hm, by simp [hn], ?_⟩⟩
  rw [List.take_of_length_le (by simp [hn])]
/-- l[i] = s. -/
theorem OwnS.set {w : World} {B : Nat} {a : Option Addr} {n c : Nat} {ls : List ByteArray} (h : OwnS w B a n c ls) (i : Nat) (hi : i < n) (s : ByteArray) :
    ∃ g, a = some ⟨g, 0, none⟩ ∧ B ≤ g ∧ (∃ v, w.cell? ⟨g, i, none⟩ = some v) ∧ w.frozen? ⟨g, i, none⟩ = false ∧ OwnS (w.setCell ⟨g, i, none⟩ (.string s)) B a n c (ls.set i s) := by
  rcases h.2 with ⟨h2, h3⟩ | ⟨g, c', cur, h1, h3, h4, h5, h6, h7, h8⟩
  · omega
  · cases h1
    have hlt : g < w.heap.size := (Array.getElem?_eq_some_iff.1 h4).1
    refine ⟨g, rfl, h3, ⟨cur[i]'(by omega), ?_⟩, ?_, ⟨by rw [List.map_set, List.length_set]; exact h.1, .inr ⟨g, _, cur.setIfInBounds i (.string s), rfl, h3, ?_, h5, h6, by simpa using h7, ?_⟩⟩⟩
    · simp [World.cell?, h4]
    · simp [World.frozen?, h4]
    · simp [World.setCell, Array.getElem?_modify, h4]
    · rw [Array.toList_setIfInBounds, List.take_set, h8, List.map_set]
end Go.Proofs.YtikimcbalkhooaaGreatDoor
