/- Texts that the others stand on. -/
import Derived.Test.YtnajhjmdpaeelaaGreatDoorG22
import Derived.Test.YtnajhjmdpaeelaaGreatDoorProg
import Derived.WalkKit
import Derived.WalkSpells
import Derived.Laws.IdiomStrings
import Derived.Deep.LoopGhost
import Derived.Deep.Cut
import Derived.PlainAid
import Derived.Lib.IndexBytes
import Derived.Elder7
import Derived.Lib.ConvBytes
import Derived.Lib.AppendStr
import Derived.Deep.OwnRows
import Derived.Deep.CutRange
import Derived.Laws.AppendOwnNone
import Derived.Deep.QuietTactic
import Derived.BigQuiet
namespace Go.Proofs.YtnajhjmdpaeelaaGreatDoor.Sq
open Go.RowKit Go.PlainAid
open Dk (ptr below_drewN alloc_below step_below add_flat OwnR OwnP OwnS Mv pcells Elt elt_of)
/-- A value that is a text. -/
structure Vt (w : World) (v : Nat) (t : ByteArray) : Prop where
  blk : w.heap[v]? = some (.cells #[.int .i64 1, .string t, .pointer none, .pointer none, .pointer none] 56 (0, 0))
theorem Vt.lt {w : World} {v : Nat} {t : ByteArray} (h : Vt w v t) : v < w.heap.size := (Array.getElem?_eq_some_iff.1 h.blk).1
theorem Vt.keep {w w' : World} {v : Nat} {t : ByteArray} (h : Vt w v t) (hb : Below w.heap.size w w') : Vt w' v t := ⟨by rw [hb.block v h.lt]; exact h.blk⟩
theorem Vt.mb {w w' : World} {B : Own} {v : Nat} {t : ByteArray} (h : Vt w v t) (hb : Mb stag B w w') : Vt w' v t := ⟨by rw [hb.mv.block v _ _ h.blk (by decide)]; exact h.blk⟩
theorem Vt.ck {w : World} {v : Nat} {t : ByteArray} (h : Vt w v t) : w.cell? ⟨v, 0, none⟩ = some (.int .i64 1) := by simp [World.cell?, h.blk]
theorem Vt.ct {w : World} {v : Nat} {t : ByteArray} (h : Vt w v t) : w.cell? ⟨v, 1, none⟩ = some (.string t) := by simp [World.cell?, h.blk]
theorem kind_t (w : World) (v : Nat) (t : ByteArray) (h : Vt w v t) : Calls Tryz.prog 75 #[ptr v] w fun e w' => e = .returned (.int .i64 1) ∧ w' = w := by
  have h1 := h.ck
  clear h
  go_enter Tryz.func75, Tryz.ntmps75
  go_wp2
  go_ret
  exact ⟨rfl, rfl⟩
theorem Empty_t (w : World) (v : Nat) (t : ByteArray) (h : Vt w v t) : Calls Tryz.prog 32 #[ptr v] w fun e w' => e = .returned (.bool false) ∧ Below w.heap.size w w' := by
  have HK := kind_t w v t h
  clear h
  go_enter Tryz.func32, Tryz.ntmps32
  go_wp2_with fail
  refine HK.mono ?_
  rintro e w ⟨rfl, rfl⟩
  go_wp2
  go_ret
  exact ⟨rfl, Below.refl _ _⟩
/-- No number is greater than this. -/
def Vle (V : ByteArray → Int) (b : Int) : Prop := ∀ k, 0 ≤ V k ∧ V k ≤ b
theorem Vle.low {V : ByteArray → Int} {b : Int} (h : Vle V b) (hb : b ≤ 1000000) : Low V := fun k => by have := h k; omega
theorem Vle.zero : Vle (fun _ => 0) 0 := fun _ => ⟨Int.le_refl _, Int.le_refl _⟩
theorem Vle.inc {V : ByteArray → Int} {b : Int} (h : Vle V b) (k : ByteArray) : Vle (incV V k) (b + 1) := fun j => by have := h j; have := incV_le V k j; omega
theorem Vle.chg {α : Type} {V : ByteArray → Int} {b : Int} (h : Vle V b) (A : AbV α) (k : ByteArray) : Vle (chgV A V k) (b + 1) := by
  unfold chgV
  split
  · exact h.inc k
  · exact fun j => by have := h j; omega
theorem Vle.due {α : Type} {V : ByteArray → Int} {b : Int} (h : Vle V b) (A : AbV α) (t : Int) : Vle (dueV A V t) (b + 1) := fun j => by have := h j; have := dueV_le A V t j; omega
theorem Vle.mono {V : ByteArray → Int} {b c : Int} (h : Vle V b) (hb : b ≤ c) : Vle V c := fun j => by have := h j; omega
/-- Nothing is there; one key alone. -/
abbrev none' : Ab := fun _ => none
def one (k : ByteArray) (y : Option Addr × Option Int) : Ab := setA none' k (some y)
theorem LenR.of {e : Ending} {A : Ab} {ks : List ByteArray} (h : LenR e A) (hd : Dom A ks) : e = .returned (.int .i64 (ks.length : Nat)) := by
  obtain ⟨js, h1, rfl⟩ := h
  rw [(h1.same hd).length_eq]
theorem To.keepV {w w' : World} {B : Own} {s x : Nat} {NM : List ByteArray} {A : Ab} {V : ByteArray → Int} {t : Int} (hs : Still A t) (h : DueTo w w' B s x NM A V t) : To w w' B s x NM A V := by
  have h1 : To w w' B s x NM (dueA A t) (dueV A V t) := h
  rw [hs.due, hs.dueV] at h1
  exact h1
end Go.Proofs.YtnajhjmdpaeelaaGreatDoor.Sq
namespace Go.Proofs.YtnajhjmdpaeelaaGreatDoor
/-- A row of digits, read onto n; none: a byte that is no digit, or a number of more than 64 bits. -/
def rd : Nat → List UInt8 → Option Nat
  | n, [] => some n
  | n, b :: r => if 48 ≤ b.toNat ∧ b.toNat ≤ 57 ∧ n * 10 + (b.toNat - 48) < 18446744073709551616 then rd (n * 10 + (b.toNat - 48)) r else none
/-- The decimal text of n, by fuel. -/
def decF : Nat → Nat → List UInt8
  | 0, n => [UInt8.ofNat (48 + n)]
  | f + 1, n => if n < 10 then [UInt8.ofNat (48 + n)] else decF f (n / 10) ++ [UInt8.ofNat (48 + n % 10)]
theorem decF_eq (f : Nat) : ∀ (g n : Nat), n < f → n < g → decF f n = decF g n := by
  induction f with
  | zero => intro g n h; omega
  | succ f ih =>
    intro g n h1 h2
    obtain ⟨g, rfl⟩ : ∃ k, g = k + 1 := ⟨g - 1, by omega⟩
    rw [decF, decF]
    by_cases h : n < 10
    · rw [if_pos h, if_pos h]
    · rw [if_neg h, if_neg h, ih g (n / 10) (by omega) (by omega)]
/-- The decimal text of n. -/
def dec (n : Nat) : List UInt8 := decF (n + 1) n
theorem dec_low {n : Nat} (h : n < 10) : dec n = [UInt8.ofNat (48 + n)] := by rw [dec, decF, if_pos h]
theorem dec_high {n : Nat} (h : ¬ n < 10) : dec n = dec (n / 10) ++ [UInt8.ofNat (48 + n % 10)] := by
  rw [dec, decF, if_neg h, dec, decF_eq n (n / 10 + 1) (n / 10) (by omega) (by omega)]
theorem head_append {l r : List UInt8} (h : l ≠ []) : (l ++ r).head? = l.head? := by
  cases l with
  | nil => exact absurd rfl h
  | cons b l => rfl
theorem dec_ne (n : Nat) : dec n ≠ [] := by
  by_cases h : n < 10
  · rw [dec_low h]; simp
  · rw [dec_high h]; simp
theorem dec_len (k : Nat) : ∀ n, n < 10 ^ (k + 1) → (dec n).length ≤ k + 1 := by
  induction k with
  | zero => intro n h; rw [dec_low (by simpa using h)]; simp
  | succ k ih =>
    intro n h
    by_cases h1 : n < 10
    · rw [dec_low h1]; simp
    · rw [dec_high h1]
      have : n / 10 < 10 ^ (k + 1) := by rw [Nat.div_lt_iff_lt_mul (by omega)]; rw [Nat.pow_succ] at h; exact h
      have := ih _ this
      simp; omega
theorem dec_len20 {n : Nat} (h : n < 18446744073709551616) : (dec n).length ≤ 20 := dec_len 19 n (by omega)
theorem digit_toNat (d : Nat) (h : d < 10) : (UInt8.ofNat (48 + d)).toNat = 48 + d := by
  rw [UInt8.toNat_ofNat']; omega
theorem rd_append (l r : List UInt8) : ∀ n, rd n (l ++ r) = (rd n l).bind fun m => rd m r := by
  induction l with
  | nil => intro n; rfl
  | cons b l ih =>
    intro n
    simp only [List.cons_append, rd]
    split
    · exact ih _
    · rfl
theorem rd_lt (l : List UInt8) : ∀ n m, n < 18446744073709551616 → rd n l = some m → m < 18446744073709551616 := by
  induction l with
  | nil => intro n m h e; cases e; exact h
  | cons b l ih =>
    intro n m h e
    simp only [rd] at e
    split at e
    · exact ih _ _ (by omega) e
    · cases e
theorem dec_zero : dec 0 = [48] := dec_low (by omega)
/-- What is read of a row of digits with no zero ahead is written so. -/
theorem dec_of_rd (l : List UInt8) (n : Nat) (hne : l ≠ []) (hz : 1 < l.length → l.head? ≠ some 48) (h : rd 0 l = some n) : l = dec n := by
  induction hk : l.length generalizing l n with
  | zero => exact absurd (List.length_eq_zero_iff.1 hk) hne
  | succ k ih =>
    obtain ⟨l', b, rfl⟩ : ∃ l' b, l = l' ++ [b] := ⟨l.dropLast, l.getLast hne, (List.dropLast_concat_getLast hne).symm⟩
    rw [rd_append] at h
    cases hl : rd 0 l' with
    | none => rw [hl] at h; cases h
    | some m =>
      rw [hl] at h
      have h2 : rd m [b] = some n := h
      simp only [rd] at h2
      split at h2
      · rename_i hc
        have hn : m * 10 + (b.toNat - 48) = n := Option.some.inj h2
        have hb : UInt8.ofNat (48 + (b.toNat - 48)) = b := by
          rw [show 48 + (b.toNat - 48) = b.toNat by omega]; simp
        by_cases he : l' = []
        · subst he
          have hm : 0 = m := Option.some.inj hl
          subst hm
          rw [dec_low (by omega), ← hn]
          simp only [Nat.zero_mul, Nat.zero_add]
          rw [hb]; rfl
        · have hlen : 0 < l'.length := List.length_pos_iff.2 he
          have hh : l'.head? ≠ some 48 := by
            have := hz (by simp; omega)
            rwa [head_append he] at this
          have e := ih l' m he (fun _ => hh) hl (by simp at hk; omega)
          have hm : 0 < m := by
            rcases Nat.eq_zero_or_pos m with h0 | h0
            · subst h0; rw [e, dec_zero] at hh; exact absurd rfl hh
            · exact h0
          rw [dec_high (show ¬ n < 10 by omega), show n / 10 = m by omega, ← e, show n % 10 = b.toNat - 48 by omega, hb]
      · cases h2
/-- One digit or more. -/
def digitsL (l : List UInt8) : Option Nat := if l = [] then none else rd 0 l
/-- No zero ahead. -/
def plainL (l : List UInt8) : Option Nat := if 1 < l.length ∧ l.head? = some 48 then none else digitsL l
/-- The text of a number with its sign. -/
def fmtL (n : Int) : List UInt8 := if n < 0 then 45 :: dec (-n).toNat else dec n.toNat
def belowL (l : List UInt8) : Option Int := (plainL l).bind fun n => if n = 0 ∨ 9223372036854775808 < n then none else some (-(n : Int))
def parseL (l : List UInt8) : Option Int :=
  if l.head? = some 45 then belowL l.tail else (plainL l).bind fun n => if 9223372036854775807 < n then none else some (n : Int)
theorem plainL_some {l : List UInt8} {n : Nat} (h : plainL l = some n) : l = dec n ∧ n < 18446744073709551616 := by
  unfold plainL digitsL at h
  split at h
  · cases h
  · rename_i hz
    split at h
    · cases h
    · rename_i hne
      exact ⟨dec_of_rd l n hne (fun h1 h2 => hz ⟨h1, h2⟩) h, rd_lt l 0 n (by omega) h⟩
theorem parseL_some {l : List UInt8} {n : Int} (h : parseL l = some n) : l = fmtL n ∧ -9223372036854775808 ≤ n ∧ n < 9223372036854775808 := by
  unfold parseL at h
  split at h
  · rename_i h45
    unfold belowL at h
    cases hp : plainL l.tail with
    | none => rw [hp] at h; cases h
    | some m =>
      rw [hp] at h
      have h' : (if m = 0 ∨ 9223372036854775808 < m then none else some (-(m : Int))) = some n := h
      split at h'
      · cases h'
      · have hn : -(m : Int) = n := Option.some.inj h'
        obtain ⟨e, hm⟩ := plainL_some hp
        have hl : l = 45 :: l.tail := by
          cases l with
          | nil => cases h45
          | cons b r => have : b = 45 := by simpa using h45
                        rw [this]; rfl
        refine ⟨?_, by omega, by omega⟩
        unfold fmtL
        rw [if_pos (by omega), hl, e]
        congr 2; omega
  · cases hp : plainL l with
    | none => rw [hp] at h; cases h
    | some m =>
      rw [hp] at h
      have h' : (if 9223372036854775807 < m then none else some (m : Int)) = some n := h
      split at h'
      · cases h'
      · have hn : (m : Int) = n := Option.some.inj h'
        obtain ⟨e, hm⟩ := plainL_some hp
        refine ⟨?_, by omega, by omega⟩
        unfold fmtL
        rw [if_neg (by omega), e]
        congr 1; omega
theorem plainL_lt {l : List UInt8} {n : Nat} (h : plainL l = some n) : n < 18446744073709551616 := (plainL_some h).2
end Go.Proofs.YtnajhjmdpaeelaaGreatDoor
namespace Go.Proofs.YtnajhjmdpaeelaaGreatDoor
open Go.RowKit Go.PlainAid
/-- A text's bytes. -/
abbrev lst (s : ByteArray) : List UInt8 := s.data.toList
def u64R (o : Option Nat) : Value := .tuple #[.int .u64 (o.getD 0 : Nat), .bool o.isSome]
def i64R (o : Option Int) : Value := .tuple #[.int .i64 (o.getD 0), .bool o.isSome]
theorem fits_yes (n d : Int) (w : World) (h0 : 0 ≤ d) (h9 : d ≤ 9) (hf : n * 10 + d < 18446744073709551616) :
    Calls Tryz.prog 219 #[.int .u64 n, .int .u64 d] w fun e w' => e = .returned (.bool true) ∧ w' = w := by
  have hq : n ≤ (18446744073709551615 - d) / 10 := by omega
  go_enter Tryz.func219, Tryz.ntmps219
  go_wp2
  go_ret
  exact ⟨rfl, rfl⟩
theorem fits_no (n d : Int) (w : World) (h0 : 0 ≤ d) (h9 : d ≤ 9) (hf : ¬ n * 10 + d < 18446744073709551616) :
    Calls Tryz.prog 219 #[.int .u64 n, .int .u64 d] w fun e w' => e = .returned (.bool false) ∧ w' = w := by
  have hq : ¬ n ≤ (18446744073709551615 - d) / 10 := by omega
  go_enter Tryz.func219, Tryz.ntmps219
  go_wp2
  go_ret
  exact ⟨rfl, rfl⟩
theorem drop_at (s : ByteArray) (k : Nat) (h : k < s.size) : (lst s).drop k = s[k] :: (lst s).drop (k + 1) := by
  rw [List.drop_eq_getElem_cons (by simpa using h)]; rfl
theorem rd_bad {l r : List UInt8} {b : UInt8} {n : Nat} {c : Int} (hl : l = b :: r) (hc : (b.toNat : Int) = c) (h : c < 48 ∨ 57 < c ∨ ¬ (n : Int) * 10 + (c - 48) < 18446744073709551616) : rd n l = none := by
  subst hl
  simp only [rd]
  rw [if_neg (by omega)]
theorem rd_good {l r : List UInt8} {b : UInt8} {n : Nat} {c : Int} (hl : l = b :: r) (hc : (b.toNat : Int) = c) (h1 : 48 ≤ c) (h2 : c ≤ 57) (h3 : (n : Int) * 10 + (c - 48) < 18446744073709551616) : rd n l = rd ((n : Int) * 10 + (c - 48)).toNat r := by
  subst hl
  simp only [rd]
  rw [if_pos (by omega)]
  congr 1; omega
theorem digits_none (w : World) : Calls Tryz.prog 214 #[.string ⟨#[]⟩] w fun e w' => e = .returned (u64R none) ∧ w' = w := by
  go_enter Tryz.func214, Tryz.ntmps214
  go_wp2
  go_ret2
  exact ⟨rfl, rfl⟩
set_option maxHeartbeats 1000000 in
theorem digits_any (s : ByteArray) (w : World) (hs : s.size ≤ maxLen) (o : Option Nat) (ho : digitsL (lst s) = o) :
    Calls Tryz.prog 214 #[.string s] w fun e w' => e = .returned (u64R o) ∧ w' = w := by
  unfold maxLen at hs
  by_cases he : lst s = []
  · have hs0 : s = ⟨#[]⟩ := by
      cases s with
      | mk d => have : d.toList = [] := he
                rw [Array.toList_eq_nil_iff] at this; rw [this]
    subst hs0
    rw [← ho]
    exact digits_none w
  have HO : Hid (rd 0 (lst s) = o) := by show rd 0 _ = _; rw [← ho]; unfold digitsL; rw [if_neg he]
  have hne : s.toList.isEmpty = false := by
    rw [ByteArray.toList_eq]; simpa using he
  clear ho he
  go_enter Tryz.func214, Tryz.ntmps214
  go_wp2
  go_loopg [4, 5] s.size (fun g nv i wr => w = wr ∧ ∃ k n : Nat, k + g = s.size ∧ i = .int .i64 k ∧ nv = .int .u64 n ∧ n < 18446744073709551616 ∧ Hid (rd n ((lst s).drop k) = o))
  case atStart => exact ⟨rfl, 0, 0, by omega, rfl, rfl, by omega, HO⟩
  case round =>
    obtain ⟨rfl, k, n, hk, rfl, rfl, hn, H⟩ := hrel
    have HK : Hid (k + gk = s.size) := hk
    clear hk HO
    by_cases hlt : k < s.size
    · have HD : Hid ((lst s).drop k = s[k] :: (lst s).drop (k + 1)) := drop_at s k hlt
      obtain ⟨c, hc⟩ : ∃ c : Int, ((s[k]'hlt).toNat : Int) = c := ⟨_, rfl⟩
      have hc0 : 0 ≤ c ∧ c ≤ 255 := by have := (s[k]'hlt).toNat_lt; omega
      have HC : Hid (((s[k]'hlt).toNat : Int) = c) := hc
      have e1 : IntKind.u64.wrap c = c := u64_nonneg (by omega) (by omega)
      by_cases h1 : c < 48
      · have e2 : IntKind.u64.wrap (c - 48) = c - 48 + 18446744073709551616 := u64_neg (by omega) (by omega)
        have HN : Hid (none = o) := (rd_bad HD.out HC.out (by omega)).symm.trans H.out
        go_wp2
        go_ret2
        exact ⟨by rw [← HN.out]; rfl, rfl⟩
      by_cases h2 : 57 < c
      · have HN : Hid (none = o) := (rd_bad HD.out HC.out (by omega)).symm.trans H.out
        go_wp2
        go_ret2
        exact ⟨by rw [← HN.out]; rfl, rfl⟩
      by_cases h3 : (n : Int) * 10 + (c - 48) < 18446744073709551616
      · have HN : Hid (rd ((n : Int) * 10 + (c - 48)).toNat ((lst s).drop (k + 1)) = o) := (rd_good HD.out HC.out (by omega) (by omega) h3).symm.trans H.out
        go_wp2_with (go_at_call 219; refine (fits_yes _ _ _ (by omega) (by omega) h3).mono ?_; rintro e w ⟨rfl, rfl⟩)
        go_roundg (gk - 1)
        case measure => have := HK.out; omega
        case rel => exact ⟨rfl, k + 1, ((n : Int) * 10 + (c - 48)).toNat, by have := HK.out; omega, by go_num, by go_num, by omega, HN⟩
      · have HN : Hid (none = o) := (rd_bad HD.out HC.out (by omega)).symm.trans H.out
        go_wp2_with (go_at_call 219; refine (fits_no _ _ _ (by omega) (by omega) h3).mono ?_; rintro e w ⟨rfl, rfl⟩)
        go_ret2
        exact ⟨by rw [← HN.out]; rfl, rfl⟩
    · have HN : Hid (some n = o) := by
        have := H.out
        rw [List.drop_eq_nil_of_le (by simp; omega)] at this
        exact this
      go_wp2
      go_ret2
      exact ⟨by rw [← HN.out]; rfl, rfl⟩
theorem head_at (s : ByteArray) (h : 0 < s.size) : (lst s).head? = some (s[0]'h) := by
  have := drop_at s 0 h
  rw [List.drop_zero] at this
  rw [this]; rfl
theorem tail_at (s : ByteArray) : lst (s.extract 1 s.size) = (lst s).tail := by
  unfold lst; rw [Lib.extract_to_end, List.drop_one]
theorem byte_eq {b : UInt8} {c : Int} (h : (b.toNat : Int) = c) (k : Nat) (hk : k < 256) : b = UInt8.ofNat k ↔ c = k := by
  constructor
  · rintro rfl
    rw [UInt8.toNat_ofNat'] at h; omega
  · intro e
    have : b.toNat = k := by omega
    rw [← this]; simp
theorem plain_any (s : ByteArray) (w : World) (hs : s.size ≤ maxLen) (o : Option Nat) (ho : plainL (lst s) = o) :
    Calls Tryz.prog 191 #[.string s] w fun e w' => e = .returned (u64R o) ∧ w' = w := by
  have HS : Hid (s.size ≤ maxLen) := hs
  unfold maxLen at hs
  by_cases hlt : 1 < s.size
  · have h0 : 0 < s.size := by omega
    obtain ⟨c, hc⟩ : ∃ c : Int, ((s[0]'h0).toNat : Int) = c := ⟨_, rfl⟩
    have hh := head_at s h0
    by_cases h48 : c = 48
    · subst h48
      have HN : Hid (none = o) := by
        show none = o
        rw [← ho, plainL, if_pos]
        refine ⟨by simpa using hlt, ?_⟩
        rw [hh, (byte_eq hc 48 (by omega)).2 rfl]; rfl
      clear ho hh
      go_enter Tryz.func191, Tryz.ntmps191
      go_wp2
      go_ret2
      exact ⟨by rw [← HN.out]; rfl, rfl⟩
    · have HN : Hid (digitsL (lst s) = o) := by
        show _ = o
        rw [← ho, plainL, if_neg]
        rintro ⟨-, h2⟩
        rw [hh] at h2
        exact h48 ((byte_eq hc 48 (by omega)).1 (Option.some.inj h2))
      clear ho hh
      have hq : (c == 48) = false := by simp [h48]
      clear h48
      go_enter Tryz.func191, Tryz.ntmps191
      go_wp2_with (go_at_call 214; refine (digits_any s _ HS.out o HN.out).mono ?_; rintro e w ⟨rfl, rfl⟩; unfold u64R)
      go_ret2
      exact ⟨rfl, rfl⟩
  · have HN : Hid (digitsL (lst s) = o) := by
      show _ = o
      rw [← ho, plainL, if_neg]
      rintro ⟨h1, -⟩
      exact hlt (by simpa using h1)
    clear ho
    go_enter Tryz.func191, Tryz.ntmps191
    go_wp2_with (go_at_call 214; refine (digits_any s _ HS.out o HN.out).mono ?_; rintro e w ⟨rfl, rfl⟩; unfold u64R)
    go_ret2
    exact ⟨rfl, rfl⟩
theorem below_any (s : ByteArray) (w : World) (hs : s.size ≤ maxLen) (o : Option Int) (ho : belowL (lst s) = o) :
    Calls Tryz.prog 190 #[.string s] w fun e w' => e = .returned (i64R o) ∧ w' = w := by
  unfold belowL at ho
  cases hp : plainL (lst s) with
  | none =>
    rw [hp] at ho
    have HN : Hid (none = o) := ho
    clear ho
    go_enter Tryz.func190, Tryz.ntmps190
    go_wp2_with (go_at_call 191; refine (plain_any s _ hs none hp).mono ?_; rintro e w ⟨rfl, rfl⟩; dsimp only [u64R, Option.getD_none, Option.isSome_none])
    go_ret2
    exact ⟨by rw [← HN.out]; rfl, rfl⟩
  | some n =>
    rw [hp] at ho
    have hn := plainL_lt hp
    have ho' : (if n = 0 ∨ 9223372036854775808 < n then none else some (-(n : Int))) = o := ho
    clear ho
    by_cases h : n = 0 ∨ 9223372036854775808 < n
    · rw [if_pos h] at ho'
      have HN : Hid (none = o) := ho'
      clear ho'
      have hh : (n : Int) = 0 ∨ (9223372036854775808 : Int) < n := by omega
      clear h
      rcases hh with h | h
      · go_enter Tryz.func190, Tryz.ntmps190
        go_wp2_with (go_at_call 191; refine (plain_any s _ hs (some n) hp).mono ?_; rintro e w ⟨rfl, rfl⟩; dsimp only [u64R, Option.getD_some, Option.isSome_some])
        go_ret2
        exact ⟨by rw [← HN.out]; rfl, rfl⟩
      · have hq : ((n : Int) == 0) = false := by simp; omega
        go_enter Tryz.func190, Tryz.ntmps190
        go_wp2_with (go_at_call 191; refine (plain_any s _ hs (some n) hp).mono ?_; rintro e w ⟨rfl, rfl⟩; dsimp only [u64R, Option.getD_some, Option.isSome_some])
        go_ret2
        exact ⟨by rw [← HN.out]; rfl, rfl⟩
    · rw [if_neg h] at ho'
      have HN : Hid (some (-(n : Int)) = o) := ho'
      clear ho'
      have h1 : 0 < (n : Int) := by omega
      have h2 : ¬ (9223372036854775808 : Int) < n := by omega
      have hq : ((n : Int) == 0) = false := by simp; omega
      clear h
      have HW : Hid (wrap64 (-(wrap64 (n : Int))) = -(n : Int)) := by
        show _ = _
        unfold wrap64; omega
      go_enter Tryz.func190, Tryz.ntmps190
      go_wp2_with (go_at_call 191; refine (plain_any s _ hs (some n) hp).mono ?_; rintro e w ⟨rfl, rfl⟩; dsimp only [u64R, Option.getD_some, Option.isSome_some])
      go_ret2
      exact ⟨by rw [← HN.out, HW.out]; rfl, rfl⟩
theorem Parse_minus (s : ByteArray) (w : World) (hs : s.size ≤ maxLen) (h0 : 0 < s.size) (hc : ((s[0]'h0).toNat : Int) = 45) (o : Option Int) (ho : belowL (lst s).tail = o) :
    Calls Tryz.prog 157 #[.string s] w fun e w' => e = .returned (i64R o) ∧ w' = w := by
  have hx : (s.extract 1 s.size).size ≤ maxLen := by
    have : (s.extract 1 s.size).size ≤ s.size := by simp
    omega
  have HN : Hid (belowL (lst (s.extract 1 s.size)) = o) := by
    show _ = o
    rw [tail_at]; exact ho
  have HX : Hid ((s.extract 1 s.size).size ≤ maxLen) := hx
  clear hx ho
  unfold maxLen at hs
  go_enter Tryz.func157, Tryz.ntmps157
  go_wp2_with (go_at_call 190; refine (below_any _ _ HX.out o HN.out).mono ?_; rintro e w ⟨rfl, rfl⟩; unfold i64R)
  go_ret2
  exact ⟨rfl, rfl⟩
/-- What Parse is where no minus stands ahead. -/
def upL (l : List UInt8) : Option Int := (plainL l).bind fun n => if 9223372036854775807 < n then none else some (n : Int)
/-- What Parse does behind its first test. -/
theorem Parse_plain (s : ByteArray) (w : World) (hs : s.size ≤ maxLen) (hc : s.size = 0 ∨ ∃ (h0 : 0 < s.size) (c : Int), ((s[0]'h0).toNat : Int) = c ∧ (c == 45) = false) (o : Option Int) (ho : upL (lst s) = o) :
    Calls Tryz.prog 157 #[.string s] w fun e w' => e = .returned (i64R o) ∧ w' = w := by
  have HS : Hid (s.size ≤ maxLen) := hs
  unfold maxLen at hs
  unfold upL at ho
  have main : ∀ (p : Option Nat), plainL (lst s) = p → (p = none ∧ none = o ∨ ∃ n : Nat, p = some n ∧ n < 18446744073709551616 ∧ ((9223372036854775807 : Int) < n ∧ none = o ∨ ¬ (9223372036854775807 : Int) < n ∧ some (n : Int) = o)) := by
    intro p hp
    cases p with
    | none => rw [hp] at ho; exact .inl ⟨rfl, ho⟩
    | some n =>
      rw [hp] at ho
      have ho' : (if 9223372036854775807 < n then none else some (n : Int)) = o := ho
      refine .inr ⟨n, rfl, plainL_lt hp, ?_⟩
      split at ho'
      · exact .inl ⟨by omega, ho'⟩
      · exact .inr ⟨by omega, ho'⟩
  obtain ⟨p, hp⟩ : ∃ p, plainL (lst s) = p := ⟨_, rfl⟩
  have HP : Hid (plainL (lst s) = p) := hp
  have hm := main p hp
  clear main ho hp
  rcases hc with hc | ⟨h0, c, hc, hq⟩
  · rcases hm with ⟨rfl, hn⟩ | ⟨n, rfl, hlt, ⟨h, hn⟩ | ⟨h, hn⟩⟩
    · have HN : Hid (none = o) := hn
      clear hn
      go_enter Tryz.func157, Tryz.ntmps157
      go_wp2_with (go_at_call 191; refine (plain_any s _ HS.out none HP.out).mono ?_; rintro e w ⟨rfl, rfl⟩; dsimp only [u64R, Option.getD_none, Option.isSome_none])
      go_ret2
      exact ⟨by rw [← HN.out]; rfl, rfl⟩
    · have HN : Hid (none = o) := hn
      clear hn
      go_enter Tryz.func157, Tryz.ntmps157
      go_wp2_with (go_at_call 191; refine (plain_any s _ HS.out (some n) HP.out).mono ?_; rintro e w ⟨rfl, rfl⟩; dsimp only [u64R, Option.getD_some, Option.isSome_some])
      go_ret2
      exact ⟨by rw [← HN.out]; rfl, rfl⟩
    · have HN : Hid (some (n : Int) = o) := hn
      clear hn
      go_enter Tryz.func157, Tryz.ntmps157
      go_wp2_with (go_at_call 191; refine (plain_any s _ HS.out (some n) HP.out).mono ?_; rintro e w ⟨rfl, rfl⟩; dsimp only [u64R, Option.getD_some, Option.isSome_some])
      go_ret2
      exact ⟨by rw [← HN.out]; rfl, rfl⟩
  · rcases hm with ⟨rfl, hn⟩ | ⟨n, rfl, hlt, ⟨h, hn⟩ | ⟨h, hn⟩⟩
    · have HN : Hid (none = o) := hn
      clear hn
      go_enter Tryz.func157, Tryz.ntmps157
      go_wp2_with (go_at_call 191; refine (plain_any s _ HS.out none HP.out).mono ?_; rintro e w ⟨rfl, rfl⟩; dsimp only [u64R, Option.getD_none, Option.isSome_none])
      go_ret2
      exact ⟨by rw [← HN.out]; rfl, rfl⟩
    · have HN : Hid (none = o) := hn
      clear hn
      go_enter Tryz.func157, Tryz.ntmps157
      go_wp2_with (go_at_call 191; refine (plain_any s _ HS.out (some n) HP.out).mono ?_; rintro e w ⟨rfl, rfl⟩; dsimp only [u64R, Option.getD_some, Option.isSome_some])
      go_ret2
      exact ⟨by rw [← HN.out]; rfl, rfl⟩
    · have HN : Hid (some (n : Int) = o) := hn
      clear hn
      go_enter Tryz.func157, Tryz.ntmps157
      go_wp2_with (go_at_call 191; refine (plain_any s _ HS.out (some n) HP.out).mono ?_; rintro e w ⟨rfl, rfl⟩; dsimp only [u64R, Option.getD_some, Option.isSome_some])
      go_ret2
      exact ⟨by rw [← HN.out]; rfl, rfl⟩
theorem Parse_any (s : ByteArray) (w : World) (hs : s.size ≤ maxLen) (o : Option Int) (ho : parseL (lst s) = o) :
    Calls Tryz.prog 157 #[.string s] w fun e w' => e = .returned (i64R o) ∧ w' = w := by
  unfold parseL at ho
  by_cases h0 : 0 < s.size
  · have hh := head_at s h0
    by_cases hc : ((s[0]'h0).toNat : Int) = 45
    · rw [if_pos (by rw [hh, (byte_eq hc 45 (by omega)).2 rfl]; rfl)] at ho
      exact Parse_minus s w hs h0 hc o ho
    · rw [if_neg (by
        intro h2
        rw [hh] at h2
        exact hc ((byte_eq rfl 45 (by omega)).1 (Option.some.inj h2)))] at ho
      exact Parse_plain s w hs (.inr ⟨h0, _, rfl, by simpa using hc⟩) o ho
  · have hz : s.size = 0 := by omega
    have hl : lst s = [] := by
      have : (lst s).length = 0 := by rw [Array.length_toList]; exact hz
      exact List.length_eq_zero_iff.1 this
    rw [if_neg (by rw [hl]; simp)] at ho
    exact Parse_plain s w hs (.inl hz) o ho
/-- A row of bytes as a text. -/
def bs (l : List UInt8) : ByteArray := ⟨l.toArray⟩
theorem lst_bs (l : List UInt8) : lst (bs l) = l := rfl
theorem bs_lst (s : ByteArray) : bs (lst s) = s := rfl
theorem size_bs (l : List UInt8) : (bs l).size = l.length := rfl
theorem cons_bs (b : UInt8) (l : List UInt8) : (⟨#[b]⟩ : ByteArray) ++ bs l = bs (b :: l) := ByteArray.mk_append_mk [b] l
/-- What stands while n is written: m is left, t is there. -/
def Un (n m : Nat) (t : List UInt8) : Prop := (t = [] ∧ m = n) ∨ (t ≠ [] ∧ (m = 0 ∧ t = dec n ∨ 0 < m ∧ dec m ++ t = dec n))
theorem Un.eq {n m : Nat} {t : List UInt8} (h : Un n m t) (hc : 0 < m ∨ t = []) : dec m ++ t = dec n := by
  rcases h with ⟨rfl, rfl⟩ | ⟨hne, ⟨h1, -⟩ | ⟨-, h2⟩⟩
  · simp
  · rcases hc with hc | hc
    · omega
    · exact absurd hc hne
  · exact h2
theorem Un.step {n m : Nat} {t : List UInt8} (h : Un n m t) (hc : 0 < m ∨ t = []) : Un n (m / 10) (UInt8.ofNat (48 + m % 10) :: t) := by
  have e := h.eq hc
  refine .inr ⟨by simp, ?_⟩
  by_cases hm : m < 10
  · refine .inl ⟨by omega, ?_⟩
    rw [dec_low hm] at e
    rw [← e, Nat.mod_eq_of_lt hm]; rfl
  · refine .inr ⟨by omega, ?_⟩
    rw [dec_high hm] at e
    rw [← e]; simp
theorem Un.len {n m : Nat} {t : List UInt8} (h : Un n m t) (hc : 0 < m ∨ t = []) (hn : n < 18446744073709551616) : t.length < 20 := by
  have e := congrArg List.length (h.eq hc)
  have := dec_len20 hn
  have hp : 0 < (dec m).length := List.length_pos_iff.2 (dec_ne m)
  simp at e; omega
theorem Un.done {n m : Nat} {t : List UInt8} (h : Un n m t) (hm : m = 0) (ht : t ≠ []) : dec n = t := by
  rcases h with ⟨h, -⟩ | ⟨-, ⟨-, h⟩ | ⟨h, -⟩⟩
  · exact absurd h ht
  · exact h.symm
  · omega
theorem Un.le {n m : Nat} {t : List UInt8} (h : Un n m t) (hn : n < 18446744073709551616) : t.length ≤ 20 := by
  by_cases hc : 0 < m ∨ t = []
  · have := h.len hc hn; omega
  · have := dec_len20 hn
    rw [h.done (by omega) (fun e => hc (.inr e))] at this; exact this
/-- The row of twenty bytes, t at its end. -/
structure Room (w wr : World) (t : List UInt8) : Prop where
  below : Below w.heap.size w wr
  size : w.heap.size < wr.heap.size
  cell : ∀ j (h : j < t.length), wr.cell? ⟨w.heap.size, 20 - t.length + j, none⟩ = some (.int .u8 (t[j].toNat : Nat))
  any : ∀ j, j < 20 → ∃ v, wr.cell? ⟨w.heap.size, j, none⟩ = some v
  free : ∀ j, j < 20 → wr.frozen? ⟨w.heap.size, j, none⟩ = false
theorem Room.set {w wr : World} {t : List UInt8} (R : Room w wr t) (f : Nat) (hf : f + 1 + t.length = 20) (b : UInt8) (x : Int) (hx : x = (b.toNat : Nat)) : Room w (wr.setCell ⟨w.heap.size, f, none⟩ (.int .u8 x)) (b :: t) where
  below := R.below.setCell (Nat.le_refl _) _
  size := by simpa using R.size
  cell j hj := by
    rw [List.length_cons] at hj
    rw [show 20 - (b :: t).length + j = f + j by simp; omega]
    cases j with
    | zero =>
      obtain ⟨v, hv⟩ := R.any f (by omega)
      rw [Nat.add_zero, World.cell?_setCell_same _ _ _ hv, hx]; rfl
    | succ j =>
      rw [World.cell?_setCell_other (a := ⟨w.heap.size, f, none⟩) (b := ⟨w.heap.size, f + (j + 1), none⟩) _ _ (by intro h; injection h; omega)]
      have := R.cell j (by omega)
      rw [show 20 - t.length + j = f + (j + 1) by omega] at this
      rw [this]; rfl
  any j hj := by
    by_cases e : j = f
    · subst e
      obtain ⟨v, hv⟩ := R.any j hj
      exact ⟨_, World.cell?_setCell_same _ _ _ hv⟩
    · rw [World.cell?_setCell_other (a := ⟨w.heap.size, f, none⟩) (b := ⟨w.heap.size, j, none⟩) _ _ (by intro h; cases h; exact e rfl)]
      exact R.any j hj
  free j hj := by simpa using R.free j hj
theorem digit_int {m : Nat} {M : Int} (h : (m : Int) = M) : 48 + M % 10 = ((UInt8.ofNat (48 + m % 10)).toNat : Nat) := by
  rw [digit_toNat _ (by omega)]; omega
set_option maxHeartbeats 1000000 in
theorem Unsigned_any (n : Nat) (w : World) (hn : n < 18446744073709551616) :
    Calls Tryz.prog 187 #[.int .u64 n] w fun e w' => e = .returned (.string (bs (dec n))) ∧ Below w.heap.size w w' := by
  have HN : Hid (n < 18446744073709551616) := hn
  go_enter Tryz.func187, Tryz.ntmps187
  go_wp2
  go_loopg [0, 4] 20 (fun g mv fv wr => ∃ (m : Nat) (t : List UInt8), t.length + g = 20 ∧ m < 18446744073709551616 ∧ mv = .int .u64 m ∧ fv = .int .i64 (20 - t.length : Int) ∧ Hid (Room w wr t) ∧ Hid (Un n m t))
  case atStart =>
    refine ⟨n, [], rfl, hn, rfl, rfl, ?_, .inl ⟨rfl, rfl⟩⟩
    refine ⟨(Below.refl _ _).alloc (Nat.le_refl _) _, by simp, fun j hj => absurd hj (by simp), fun j hj => ?_, fun j hj => ?_⟩
    · rcases j with _|_|_|_|_|_|_|_|_|_|_|_|_|_|_|_|_|_|_|_|j
      all_goals first | omega | exact ⟨.int .u8 0, by simp⟩
    · rcases j with _|_|_|_|_|_|_|_|_|_|_|_|_|_|_|_|_|_|_|_|j
      all_goals first | omega | simp
  case round =>
    obtain ⟨m, t, hg, hm, rfl, rfl, R, H⟩ := hrel
    have HG : Hid (t.length + gk = 20) := hg
    obtain ⟨M, hM⟩ : ∃ M : Int, (m : Int) = M := ⟨_, rfl⟩
    rw [hM]
    have HM : Hid ((m : Int) = M) := hM
    have hM0 : 0 ≤ M ∧ M < 18446744073709551616 := by omega
    clear hM hm
    by_cases ht : t = []
    · subst ht
      clear hg
      obtain ⟨v, hv⟩ := R.out.any 19 (by omega)
      have hf := R.out.free 19 (by omega)
      rw [show (20 - (([] : List UInt8).length : Int)) = 20 from rfl]
      go_wp2
      go_roundg (gk - 1)
      case measure => have := HG.out; simp at this; omega
      case rel => exact ⟨m / 10, [UInt8.ofNat (48 + m % 10)], by have := HG.out; simp at this ⊢; omega, by have := HM.out; omega, by have := HM.out; go_num, rfl, R.out.set 19 rfl _ _ (digit_int HM.out), H.out.step (.inr rfl)⟩
    by_cases hp : 0 < M
    · have HC : Hid (0 < m ∨ t = []) := .inl (by have := HM.out; omega)
      have hlen := H.out.len HC.out HN.out
      have hlp : 0 < t.length := List.length_pos_iff.2 ht
      obtain ⟨f, hF⟩ : ∃ f : Nat, f + 1 + t.length = 20 := ⟨19 - t.length, by omega⟩
      rw [show (20 - (t.length : Int)) = (f : Int) + 1 by omega]
      have HF : Hid (f + 1 + t.length = 20) := hF
      have hf19 : (f : Int) < 19 := by omega
      have hq : ((f : Int) + 1 == 20) = false := by simp; omega
      obtain ⟨v, hv⟩ := R.out.any f (by omega)
      have hf := R.out.free f (by omega)
      clear hg hlen hlp hF ht
      go_wp2
      go_roundg (gk - 1)
      case measure => have := HG.out; have := HF.out; omega
      case rel => exact ⟨m / 10, UInt8.ofNat (48 + m % 10) :: t, by have := HG.out; have := HF.out; simp; omega, by have := HM.out; omega, by have := HM.out; go_num, by have := HF.out; simp; omega, R.out.set f HF.out _ _ (digit_int HM.out), H.out.step HC.out⟩
    · have HT : Hid (t ≠ []) := ht
      have hle : t.length ≤ 20 := by omega
      have hlp : 0 < t.length := List.length_pos_iff.2 ht
      obtain ⟨f, hF⟩ : ∃ f : Nat, f + t.length = 20 := ⟨20 - t.length, by omega⟩
      rw [show (20 - (t.length : Int)) = (f : Int) by omega]
      have HF : Hid (f + t.length = 20) := hF
      have hf19 : (f : Int) < 20 := by omega
      have hq : ((f : Int) == 20) = false := by simp; omega
      have hsl : (Instr.sliceAt 315 (.pointer (some ⟨w.heap.size, 0, none⟩)) (some (.int .i64 (f : Int))) none none).run Tryz.prog wr = .ok (.slice (some ⟨w.heap.size, f, none⟩) t.length t.length) wr := by
        rw [run_sliceAt_array_l wr 315 ⟨w.heap.size, 0, none⟩ (by simp [Program.arrayLen, Program.elem, Tryz.underlying315]) .i64 (f : Int) (by omega) (by simp [Program.arrayLen, Tryz.underlying315]; omega)]
        rw [show Tryz.prog.arrayLen 315 = f + t.length by simp [Program.arrayLen, Tryz.underlying315]; omega]
        go_simp
        exact ⟨by omega, by omega⟩
      have hcv := run_convert_bytes_back (P := Tryz.prog) wr 82 9 5 ⟨w.heap.size, f, none⟩ t.length t Tryz.underlying82 Tryz.underlying5 Tryz.underlying9 (fun j hj => by
        have := R.out.cell j hj
        have e0 : (⟨w.heap.size, f, none⟩ : Addr).add j = ⟨w.heap.size, 20 - t.length + j, none⟩ := by
          have := HF.out
          rw [show 20 - t.length + j = f + j by omega]
          simp only [Addr.add]; split <;> simp_all
        rw [e0]; exact this)
      clear hg hle hlp hF ht
      go_wp2
      go_ret
      exact ⟨by rw [H.out.done (by have := HM.out; omega) HT.out]; rfl, R.out.below⟩
theorem fmtL_neg {n : Int} (h : n < 0) : fmtL n = 45 :: dec (-n).toNat := by unfold fmtL; rw [if_pos h]
theorem fmtL_pos {n : Int} (h : ¬ n < 0) : fmtL n = dec n.toNat := by unfold fmtL; rw [if_neg h]
theorem minus_bs (l : List UInt8) : (⟨#[45]⟩ : ByteArray) ++ bs l = bs (45 :: l) := cons_bs 45 l
theorem Format_any (n : Int) (w : World) (h1 : -9223372036854775808 ≤ n) (h2 : n < 9223372036854775808) :
    Calls Tryz.prog 154 #[.int .i64 n] w fun e w' => e = .returned (.string (bs (fmtL n))) ∧ Below w.heap.size w w' := by
  by_cases h : n < 0
  · have HF : Hid (bs (fmtL n) = (⟨#[45]⟩ : ByteArray) ++ bs (dec (-n).toNat)) := by
      show _ = _; rw [fmtL_neg h, minus_bs]
    have hw : IntKind.u64.wrap n = n + 18446744073709551616 := u64_neg h (by omega)
    have hw2 : IntKind.u64.wrap (-(n + 18446744073709551616)) = ((-n).toNat : Nat) := by rw [IntKind.wrap_u64]; omega
    have HU := fun w => Unsigned_any (-n).toNat w (by omega)
    have HL : Hid ((bs (dec (-n).toNat)).size ≤ 20) := dec_len20 (n := (-n).toNat) (by omega)
    generalize (-n).toNat = k at HF hw2 HU HL
    generalize bs (dec k) = b at HF HU HL
    have hl : b.size ≤ 20 := HL.out
    go_enter Tryz.func154, Tryz.ntmps154
    go_wp2_with (go_at_call 187; refine (HU _).mono ?_; rintro e w' ⟨rfl, hb⟩)
    go_ret
    exact ⟨by rw [HF.out]; rfl, hb⟩
  · have HF : Hid (bs (fmtL n) = bs (dec n.toNat)) := by
      show _ = _; rw [fmtL_pos h]
    have hw : IntKind.u64.wrap n = (n.toNat : Nat) := by rw [IntKind.wrap_u64]; omega
    have HU := fun w => Unsigned_any n.toNat w (by omega)
    generalize n.toNat = k at HF hw HU
    go_enter Tryz.func154, Tryz.ntmps154
    go_wp2_with (go_at_call 187; refine (HU _).mono ?_; rintro e w' ⟨rfl, hb⟩)
    go_ret
    exact ⟨by rw [HF.out]; rfl, hb⟩
theorem toList_beq (a b : ByteArray) : (a.toList == b.toList) = decide (a = b) := by
  rw [ByteArray.toList_eq, ByteArray.toList_eq]
  by_cases h : a = b
  · rw [decide_eq_true h, h]; simp
  · rw [decide_eq_false h, beq_eq_false_iff_ne]
    intro e
    exact h (by rw [← bs_lst a, ← bs_lst b]; exact congrArg bs e)
theorem len_lst (s : ByteArray) : (lst s).length = s.size := rfl
theorem below_drewN (w : World) : ∀ n, Below w.heap.size w (w.drewN n)
  | 0 => Below.refl _ _
  | n + 1 => (below_drewN w n).drew
theorem step_below {w w1 w2 : World} (h : Hid (Below w.heap.size w w1)) (hb : Below w1.heap.size w1 w2) : Hid (Below w.heap.size w w2) := h.out.trans (hb.mono h.out.size)
/-- A slice that reads the bytes l. -/
structure Rd (w : World) (a : Option Addr) (n cap : Nat) (l : List UInt8) : Prop where
  len : l.length = n
  fit : n ≤ cap
  max : cap ≤ maxLen
  nul : a = none → cap = 0
  cell : ∀ j, j < n → ∃ b off, a = some ⟨b, off, none⟩ ∧ w.cell? ⟨b, off + j, none⟩ = some (.int .u8 ((l.getD j 0).toNat : Nat))
theorem Rd.keep {w wn : World} {a : Option Addr} {n cap : Nat} {l : List UInt8} (h : Rd w a n cap l) (hb : Below w.heap.size w wn) : Rd wn a n cap l :=
  ⟨h.len, h.fit, h.max, h.nul, fun j hj => by
    obtain ⟨b, off, e, hc⟩ := h.cell j hj
    exact ⟨b, off, e, by rw [hb.cell (p := ⟨b, off + j, none⟩) (World.block_lt_of_cell? _ _ hc)]; exact hc⟩⟩
theorem Rd.nil (w : World) : Rd w none 0 0 [] := ⟨rfl, Nat.le_refl _, by decide, fun _ => rfl, fun j hj => absurd hj (Nat.not_lt_zero _)⟩
theorem add_flat (b off j : Nat) : (⟨b, off, none⟩ : Addr).add j = ⟨b, off + j, none⟩ := by simp only [Addr.add]; split <;> simp_all
/-- A part of it. -/
theorem Rd.sub {w : World} {a : Option Addr} {n cap : Nat} {l : List UInt8} (h : Rd w a n cap l) (lo hi : Nat) (h1 : lo ≤ hi) (h2 : hi ≤ n) :
    Rd w (if cap = lo then a else a.map (·.add (lo * 1))) (hi - lo) (cap - lo) ((l.drop lo).take (hi - lo)) := by
  refine ⟨?_, ?_, ?_, fun hn => ?_, fun j hj => ?_⟩
  · rw [List.length_take, List.length_drop, h.len]; omega
  · have := h.fit; omega
  · have := h.max; omega
  · cases a with
    | none => have := h.nul rfl; omega
    | some x => split at hn <;> simp at hn
  · obtain ⟨b, off, e, hc⟩ := h.cell (lo + j) (by omega)
    subst e
    have hne : ¬ cap = lo := by have := h.fit; omega
    refine ⟨b, off + lo, ?_, ?_⟩
    · rw [if_neg hne, Option.map_some, Nat.mul_one, add_flat]
    · rw [Nat.add_assoc, hc, List.getD_eq_getElem?_getD, List.getD_eq_getElem?_getD, List.getElem?_take, if_pos hj, List.getElem?_drop]
/-- string(b). -/
theorem Rd.text {w : World} {a : Option Addr} {n cap : Nat} {l : List UInt8} (h : Rd w a n cap l) : (convert 82 9 (.slice a n cap)).run Tryz.prog w = .ok (.string (bs l)) w := by
  have hn := h.len
  subst hn
  cases a with
  | none =>
    have h0 : l = [] := by
      cases l with
      | nil => rfl
      | cons x r =>
        obtain ⟨b, off, e, -⟩ := h.cell 0 (by simp)
        cases e
    subst h0
    rw [run_convert_bytes_string w 82 9 5 none _ cap Tryz.underlying82 Tryz.underlying5 Tryz.underlying9]
    rfl
  | some a =>
    refine run_convert_bytes_back (P := Tryz.prog) w 82 9 5 a cap l Tryz.underlying82 Tryz.underlying5 Tryz.underlying9 fun j hj => ?_
    obtain ⟨b, off, e, hc⟩ := h.cell j hj
    cases e
    rw [add_flat, hc, List.getD_eq_getElem?_getD, List.getElem?_eq_getElem hj, Option.getD_some]
/-- A row's bytes as cells. -/
def cells (l : List UInt8) : List Value := l.map fun b => Value.int .u8 b.toNat
/-- A row of bytes of the call's own, from block B on. -/
def Own (w : World) (B : Nat) (a : Option Addr) (n cap : Nat) (l : List UInt8) : Prop := w.ownsRow B 5 1 (.slice a n cap) n (cells l)
theorem Own.len {w : World} {B : Nat} {a : Option Addr} {n cap : Nat} {l : List UInt8} (h : Own w B a n cap l) : l.length = n := by
  have := h.1; simpa [cells] using this
theorem Own.low {w : World} {B C : Nat} {a : Option Addr} {n cap : Nat} {l : List UInt8} (h : Own w B a n cap l) (hC : C ≤ B) : Own w C a n cap l := by
  refine ⟨h.1, ?_⟩
  rcases h.2 with h2 | ⟨g, c, cur, h1, h3, h4⟩
  · exact .inl h2
  · exact .inr ⟨g, c, cur, h1, Nat.le_trans hC h3, h4⟩
theorem Own.keep {w wn : World} {B : Nat} {a : Option Addr} {n cap : Nat} {l : List UInt8} (h : Own w B a n cap l) (hb : Below w.heap.size w wn) : Own wn B a n cap l := by
  refine ⟨h.1, ?_⟩
  rcases h.2 with h2 | ⟨g, c, cur, h1, h3, h4, h5⟩
  · exact .inl h2
  · refine .inr ⟨g, c, cur, h1, h3, ?_, h5⟩
    rw [hb.block g (Array.getElem?_eq_some_iff.1 h4).1]; exact h4
theorem Own.nil (w : World) (B : Nat) : Own w B none 0 0 [] := World.ownsRow_nil w B 5 1
theorem Own.rd {w : World} {B : Nat} {a : Option Addr} {n cap : Nat} {l : List UInt8} (h : Own w B a n cap l) : Rd w a n cap l := by
  have hl := h.len
  rcases h.2 with ⟨h2, h3⟩ | ⟨g, c, cur, h1, h3, h4, h5, h6, h7, h8⟩
  · cases h2
    have : l = [] := List.length_eq_zero_iff.1 (by omega)
    subst this
    exact Rd.nil w
  · cases h1
    refine Rd.mk hl h5 h6 (fun e => (by cases e)) (fun j hj => ⟨g, 0, rfl, ?_⟩)
    have := h.cells (g := g) rfl j (.int .u8 ((l.getD j 0).toNat : Nat)) (by
      simp only [cells, List.getElem?_map, List.getD_eq_getElem?_getD]
      rw [List.getElem?_eq_getElem (by omega)]; rfl)
    rw [add_flat] at this
    rw [Nat.zero_add] at this ⊢
    exact this
theorem Own.block {w : World} {B : Nat} {a : Option Addr} {n cap : Nat} {l : List UInt8} (h : Own w B a n cap l) : ∀ k, (Value.slice a n cap).ownBlock = some k → B ≤ k := fun k hk => (h.lt k hk).1
/-- A row that was made in its place. -/
theorem Own.made (w : World) (l : List UInt8) (B n : Nat) (hn : l.length = n) (hB : B ≤ w.heap.size) (hm : n ≤ maxLen) : Own (w.alloc (.cells (cells l).toArray 5)) B (some ⟨w.heap.size, 0, none⟩) n n l := by
  refine ⟨by simp [cells, hn], .inr ⟨w.heap.size, n, (cells l).toArray, rfl, hB, heap_alloc_new w _, Nat.le_refl _, hm, by simp [cells, hn], ?_⟩⟩
  rw [List.take_of_length_le (by simp [cells, hn])]
end Go.Proofs.YtnajhjmdpaeelaaGreatDoor
namespace Go.Proofs.YtnajhjmdpaeelaaGreatDoor.Sq
open Go.RowKit Go.PlainAid
open Dk (ptr below_drewN alloc_below step_below add_flat OwnR OwnP OwnS Mv pcells Elt elt_of)
theorem eqlS_nil (w : World) (l : Nat) : (binOp .eql 23 (ptr l) (.pointer none)).run Tryz.prog w = .ok (.bool false) w := by
  rw [run_eql_pointer_nil w 23 (some ⟨l, 0, none⟩) (by rw [Tryz.underlying23]; kernel_rfl)]; rfl
end Go.Proofs.YtnajhjmdpaeelaaGreatDoor.Sq
