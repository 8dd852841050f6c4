/- Texts that the others stand on. -/
import Derived.Test.YtmjeljldmmkcpaaGreatProg
import Derived.Test.YtmjeljldmmkcpaaGreatK16
import Derived.WalkKit
import Derived.WalkSpells
import Derived.Laws.IdiomStrings
import Derived.Deep.LoopGhost
import Derived.Deep.Cut
import Derived.PlainAid
import Derived.Lib.IndexBytes
import Derived.Elder7
import Derived.Lib.ConvBytes
import Derived.Lib.AppendStr
import Derived.Deep.OwnRows
import Derived.Deep.CutRange
import Derived.Laws.AppendOwnNone
import Derived.Deep.QuietTactic
import Derived.BigQuiet
namespace Go.Proofs.YtmjeljldmmkcpaaGreat
open Go.RowKit Go.PlainAid
abbrev lst (s : BA) : List UInt8 := s.data.toList
def u64R (o : Option Nat) : Value := .tuple #[.int .u64 (o.getD 0 : Nat), .bool o.isSome]
def i64R (o : Option Int) : Value := .tuple #[.int .i64 (o.getD 0), .bool o.isSome]
theorem fits_yes (n d : Int) (w : World) (h0 : 0 ≤ d) (h9 : d ≤ 9) (hf : n * 10 + d < 18446744073709551616) :
  Calls Tryz.prog 301 #[.int .u64 n, .int .u64 d] w fun e w' => e = .returned (.bool true) ∧ w' = w := by
 have hq : n ≤ (18446744073709551615 - d) / 10 := by omega
 go_enter Tryz.func301, Tryz.ntmps301
 go_wp2
 go_ret
 exact ⟨rfl, rfl⟩
theorem fits_no (n d : Int) (w : World) (h0 : 0 ≤ d) (h9 : d ≤ 9) (hf : ¬ n * 10 + d < 18446744073709551616) :
  Calls Tryz.prog 301 #[.int .u64 n, .int .u64 d] w fun e w' => e = .returned (.bool false) ∧ w' = w := by
 have hq : ¬ n ≤ (18446744073709551615 - d) / 10 := by omega
 go_enter Tryz.func301, Tryz.ntmps301
 go_wp2
 go_ret
 exact ⟨rfl, rfl⟩
theorem drop_at (s : BA) (k : Nat) (h : k < s.size) : (lst s).drop k = s[k] :: (lst s).drop (k + 1) := by
 rw [List.drop_eq_getElem_cons (by simpa using h)]; rfl
theorem rd_bad {l r : List UInt8} {b : UInt8} {n : Nat} {c : Int} (hl : l = b :: r) (hc : (b.toNat : Int) = c) (h : c < 48 ∨ 57 < c ∨ ¬ (n : Int) * 10 + (c - 48) < 18446744073709551616) : rd n l = none := by
 subst hl
 simp only [rd]
 rw [if_neg (by omega)]
theorem rd_good {l r : List UInt8} {b : UInt8} {n : Nat} {c : Int} (hl : l = b :: r) (hc : (b.toNat : Int) = c) (h1 : 48 ≤ c) (h2 : c ≤ 57) (h3 : (n : Int) * 10 + (c - 48) < 18446744073709551616) : rd n l = rd ((n : Int) * 10 + (c - 48)).toNat r := by
 subst hl
 simp only [rd]
 rw [if_pos (by omega)]
 congr 1; omega
theorem digits_none (w : World) : Calls Tryz.prog 300 #[.string ⟨#[]⟩] w fun e w' => e = .returned (u64R none) ∧ w' = w := by
 go_enter Tryz.func300, Tryz.ntmps300
 go_wp2
 go_ret2
 exact ⟨rfl, rfl⟩
set_option maxHeartbeats 1000000 in
theorem digits_any (s : BA) (w : World) (hs : s.size ≤ maxLen) (o : Option Nat) (ho : digitsL (lst s) = o) :
    Calls Tryz.prog 300 #[.string s] w fun e w' => e = .returned (u64R o) ∧ w' = w := by
  unfold maxLen at hs
  by_cases he : lst s = []
  · have hs0 : s = ⟨#[]⟩ := by
      cases s with
      | mk d => have : d.toList = [] := he
                rw [Array.toList_eq_nil_iff] at this; rw [this]
    subst hs0
    rw [← ho]
    exact digits_none w
  have HO : Hid (rd 0 (lst s) = o) := by show rd 0 _ = _; rw [← ho]; unfold digitsL; rw [if_neg he]
  have hne : s.toList.isEmpty = false := by
    rw [ByteArray.toList_eq]; simpa using he
  clear ho he
  go_enter Tryz.func300, Tryz.ntmps300
  go_wp2
  go_loopg [4, 5] s.size (fun g nv i wr => w = wr ∧ ∃ k n : Nat, k + g = s.size ∧ i = .int .i64 k ∧ nv = .int .u64 n ∧ n < 18446744073709551616 ∧ Hid (rd n ((lst s).drop k) = o))
  case atStart => exact ⟨rfl, 0, 0, by omega, rfl, rfl, by omega, HO⟩
  case round =>
    obtain ⟨rfl, k, n, hk, rfl, rfl, hn, H⟩ := hrel
    have HK : Hid (k + gk = s.size) := hk
    clear hk HO
    by_cases hlt : k < s.size
    · have HD : Hid ((lst s).drop k = s[k] :: (lst s).drop (k + 1)) := drop_at s k hlt
      obtain ⟨c, hc⟩ : ∃ c : Int, ((s[k]'hlt).toNat : Int) = c := ⟨_, rfl⟩
      have hc0 : 0 ≤ c ∧ c ≤ 255 := by have := (s[k]'hlt).toNat_lt; omega
      have HC : Hid (((s[k]'hlt).toNat : Int) = c) := hc
      have e1 : IntKind.u64.wrap c = c := u64_nonneg (by omega) (by omega)
      by_cases h1 : c < 48
      · have e2 : IntKind.u64.wrap (c - 48) = c - 48 + 18446744073709551616 := u64_neg (by omega) (by omega)
        have HN : Hid (none = o) := (rd_bad HD.out HC.out (by omega)).symm.trans H.out
        go_wp2
        go_ret2
        exact ⟨by rw [← HN.out]; rfl, rfl⟩
      by_cases h2 : 57 < c
      · have HN : Hid (none = o) := (rd_bad HD.out HC.out (by omega)).symm.trans H.out
        go_wp2
        go_ret2
        exact ⟨by rw [← HN.out]; rfl, rfl⟩
      by_cases h3 : (n : Int) * 10 + (c - 48) < 18446744073709551616
      · have HN : Hid (rd ((n : Int) * 10 + (c - 48)).toNat ((lst s).drop (k + 1)) = o) := (rd_good HD.out HC.out (by omega) (by omega) h3).symm.trans H.out
        go_wp2_with (go_at_call 301; refine (fits_yes _ _ _ (by omega) (by omega) h3).mono ?_; rintro e w ⟨rfl, rfl⟩)
        go_roundg (gk - 1)
        case measure => have := HK.out; omega
        case rel => exact ⟨rfl, k + 1, ((n : Int) * 10 + (c - 48)).toNat, by have := HK.out; omega, by go_num, by go_num, by omega, HN⟩
      · have HN : Hid (none = o) := (rd_bad HD.out HC.out (by omega)).symm.trans H.out
        go_wp2_with (go_at_call 301; refine (fits_no _ _ _ (by omega) (by omega) h3).mono ?_; rintro e w ⟨rfl, rfl⟩)
        go_ret2
        exact ⟨by rw [← HN.out]; rfl, rfl⟩
    · have HN : Hid (some n = o) := by
        have := H.out
        rw [List.drop_eq_nil_of_le (by simp; omega)] at this
        exact this
      go_wp2
      go_ret2
      exact ⟨by rw [← HN.out]; rfl, rfl⟩
theorem head_at (s : BA) (h : 0 < s.size) : (lst s).head? = some (s[0]'h) := by
 have := drop_at s 0 h
 rw [List.drop_zero] at this
 rw [this]; rfl
theorem tail_at (s : BA) : lst (s.extract 1 s.size) = (lst s).tail := by
 unfold lst; rw [Lib.extract_to_end, List.drop_one]
theorem byte_eq {b : UInt8} {c : Int} (h : (b.toNat : Int) = c) (k : Nat) (hk : k < 256) : b = UInt8.ofNat k ↔ c = k := by
 constructor
 ·rintro rfl
  rw [UInt8.toNat_ofNat'] at h; omega
 ·intro e
  have : b.toNat = k := by omega
  rw [← this]; simp
theorem Cf (s : BA) (w : World) (hs : s.size ≤ maxLen) (o : Option Nat) (ho : plainL (lst s) = o) :
  Calls Tryz.prog 298 #[.string s] w fun e w' => e = .returned (u64R o) ∧ w' = w := by
 have HS : Hid (s.size ≤ maxLen) := hs
 unfold maxLen at hs
 by_cases hlt : 1 < s.size
 ·have h0 : 0 < s.size := by omega
  obtain ⟨c, hc⟩ : ∃ c : Int, ((s[0]'h0).toNat : Int) = c := ⟨_, rfl⟩
  have hh := head_at s h0
  by_cases h48 : c = 48
  ·subst h48
   have HN : Hid (none = o) := by
    show none = o
    rw [← ho, plainL, if_pos]
    refine ⟨by simpa using hlt, ?_⟩
    rw [hh, (byte_eq hc 48 (by omega)).2 rfl]; rfl
   clear ho hh
   go_enter Tryz.func298, Tryz.ntmps298
   go_wp2
   go_ret2
   exact ⟨by rw [← HN.out]; rfl, rfl⟩
  ·have HN : Hid (digitsL (lst s) = o) := by
    show _ = o
    rw [← ho, plainL, if_neg]
    rintro ⟨-, h2⟩
    rw [hh] at h2
    exact h48 ((byte_eq hc 48 (by omega)).1 (Option.some.inj h2))
   clear ho hh
   have hq : (c == 48) = false := by simp [h48]
   clear h48
   go_enter Tryz.func298, Tryz.ntmps298
   go_wp2_with (go_at_call 300; refine (digits_any s _ HS.out o HN.out).mono ?_; rintro e w ⟨rfl, rfl⟩; unfold u64R)
   go_ret2
   exact ⟨rfl, rfl⟩
 ·have HN : Hid (digitsL (lst s) = o) := by
   show _ = o
   rw [← ho, plainL, if_neg]
   rintro ⟨h1, -⟩
   exact hlt (by simpa using h1)
  clear ho
  go_enter Tryz.func298, Tryz.ntmps298
  go_wp2_with (go_at_call 300; refine (digits_any s _ HS.out o HN.out).mono ?_; rintro e w ⟨rfl, rfl⟩; unfold u64R)
  go_ret2
  exact ⟨rfl, rfl⟩
theorem below_any (s : BA) (w : World) (hs : s.size ≤ maxLen) (o : Option Int) (ho : belowL (lst s) = o) :
  Calls Tryz.prog 297 #[.string s] w fun e w' => e = .returned (i64R o) ∧ w' = w := by
 unfold belowL at ho
 cases hp : plainL (lst s) with
 | none =>
  rw [hp] at ho
  have HN : Hid (none = o) := ho
  clear ho
  go_enter Tryz.func297, Tryz.ntmps297
  go_wp2_with (go_at_call 298; refine (Cf s _ hs none hp).mono ?_; rintro e w ⟨rfl, rfl⟩; dsimp only [u64R, Option.getD_none, Option.isSome_none])
  go_ret2
  exact ⟨by rw [← HN.out]; rfl, rfl⟩
 | some n =>
  rw [hp] at ho
  have hn := plainL_lt hp
  have ho' : (if n = 0 ∨ 9223372036854775808 < n then none else some (-(n : Int))) = o := ho
  clear ho
  by_cases h : n = 0 ∨ 9223372036854775808 < n
  ·rw [if_pos h] at ho'
   have HN : Hid (none = o) := ho'
   clear ho'
   have hh : (n : Int) = 0 ∨ (9223372036854775808 : Int) < n := by omega
   clear h
   rcases hh with h | h
   ·go_enter Tryz.func297, Tryz.ntmps297
    go_wp2_with (go_at_call 298; refine (Cf s _ hs (some n) hp).mono ?_; rintro e w ⟨rfl, rfl⟩; dsimp only [u64R, Option.getD_some, Option.isSome_some])
    go_ret2
    exact ⟨by rw [← HN.out]; rfl, rfl⟩
   ·have hq : ((n : Int) == 0) = false := by simp; omega
    go_enter Tryz.func297, Tryz.ntmps297
    go_wp2_with (go_at_call 298; refine (Cf s _ hs (some n) hp).mono ?_; rintro e w ⟨rfl, rfl⟩; dsimp only [u64R, Option.getD_some, Option.isSome_some])
    go_ret2
    exact ⟨by rw [← HN.out]; rfl, rfl⟩
  ·rw [if_neg h] at ho'
   have HN : Hid (some (-(n : Int)) = o) := ho'
   clear ho'
   have h1 : 0 < (n : Int) := by omega
   have h2 : ¬ (9223372036854775808 : Int) < n := by omega
   have hq : ((n : Int) == 0) = false := by simp; omega
   clear h
   have HW : Hid (wrap64 (-(wrap64 (n : Int))) = -(n : Int)) := by
    show _ = _
    unfold wrap64; omega
   go_enter Tryz.func297, Tryz.ntmps297
   go_wp2_with (go_at_call 298; refine (Cf s _ hs (some n) hp).mono ?_; rintro e w ⟨rfl, rfl⟩; dsimp only [u64R, Option.getD_some, Option.isSome_some])
   go_ret2
   exact ⟨by rw [← HN.out, HW.out]; rfl, rfl⟩
theorem Parse_minus (s : BA) (w : World) (hs : s.size ≤ maxLen) (h0 : 0 < s.size) (hc : ((s[0]'h0).toNat : Int) = 45) (o : Option Int) (ho : belowL (lst s).tail = o) :
  Calls Tryz.prog 292 #[.string s] w fun e w' => e = .returned (i64R o) ∧ w' = w := by
 have hx : (s.extract 1 s.size).size ≤ maxLen := by
  have : (s.extract 1 s.size).size ≤ s.size := by simp
  omega
 have HN : Hid (belowL (lst (s.extract 1 s.size)) = o) := by
  show _ = o
  rw [tail_at]; exact ho
 have HX : Hid ((s.extract 1 s.size).size ≤ maxLen) := hx
 clear hx ho
 unfold maxLen at hs
 go_enter Tryz.func292, Tryz.ntmps292
 go_wp2_with (go_at_call 297; refine (below_any _ _ HX.out o HN.out).mono ?_; rintro e w ⟨rfl, rfl⟩; unfold i64R)
 go_ret2
 exact ⟨rfl, rfl⟩
def upL (l : List UInt8) : Option Int := (plainL l).bind fun n => if 9223372036854775807 < n then none else some (n : Int)
theorem Parse_plain (s : BA) (w : World) (hs : s.size ≤ maxLen) (hc : s.size = 0 ∨ ∃ (h0 : 0 < s.size) (c : Int), ((s[0]'h0).toNat : Int) = c ∧ (c == 45) = false) (o : Option Int) (ho : upL (lst s) = o) :
  Calls Tryz.prog 292 #[.string s] w fun e w' => e = .returned (i64R o) ∧ w' = w := by
 have HS : Hid (s.size ≤ maxLen) := hs
 unfold maxLen at hs
 unfold upL at ho
 have main : ∀ (p : Option Nat), plainL (lst s) = p → (p = none ∧ none = o ∨ ∃ n : Nat, p = some n ∧ n < 18446744073709551616 ∧ ((9223372036854775807 : Int) < n ∧ none = o ∨ ¬ (9223372036854775807 : Int) < n ∧ some (n : Int) = o)) := by
  intro p hp
  cases p with
  | none => rw [hp] at ho; exact .inl ⟨rfl, ho⟩
  | some n =>
   rw [hp] at ho
   have ho' : (if 9223372036854775807 < n then none else some (n : Int)) = o := ho
   refine .inr ⟨n, rfl, plainL_lt hp, ?_⟩
   split at ho'
   ·exact .inl ⟨by omega, ho'⟩
   ·exact .inr ⟨by omega, ho'⟩
 obtain ⟨p, hp⟩ : ∃ p, plainL (lst s) = p := ⟨_, rfl⟩
 have HP : Hid (plainL (lst s) = p) := hp
 have hm := main p hp
 clear main ho hp
 rcases hc with hc | ⟨h0, c, hc, hq⟩
 ·rcases hm with ⟨rfl, hn⟩ | ⟨n, rfl, hlt, ⟨h, hn⟩ | ⟨h, hn⟩⟩
  ·have HN : Hid (none = o) := hn
   clear hn
   go_enter Tryz.func292, Tryz.ntmps292
   go_wp2_with (go_at_call 298; refine (Cf s _ HS.out none HP.out).mono ?_; rintro e w ⟨rfl, rfl⟩; dsimp only [u64R, Option.getD_none, Option.isSome_none])
   go_ret2
   exact ⟨by rw [← HN.out]; rfl, rfl⟩
  ·have HN : Hid (none = o) := hn
   clear hn
   go_enter Tryz.func292, Tryz.ntmps292
   go_wp2_with (go_at_call 298; refine (Cf s _ HS.out (some n) HP.out).mono ?_; rintro e w ⟨rfl, rfl⟩; dsimp only [u64R, Option.getD_some, Option.isSome_some])
   go_ret2
   exact ⟨by rw [← HN.out]; rfl, rfl⟩
  ·have HN : Hid (some (n : Int) = o) := hn
   clear hn
   go_enter Tryz.func292, Tryz.ntmps292
   go_wp2_with (go_at_call 298; refine (Cf s _ HS.out (some n) HP.out).mono ?_; rintro e w ⟨rfl, rfl⟩; dsimp only [u64R, Option.getD_some, Option.isSome_some])
   go_ret2
   exact ⟨by rw [← HN.out]; rfl, rfl⟩
 ·rcases hm with ⟨rfl, hn⟩ | ⟨n, rfl, hlt, ⟨h, hn⟩ | ⟨h, hn⟩⟩
  ·have HN : Hid (none = o) := hn
   clear hn
   go_enter Tryz.func292, Tryz.ntmps292
   go_wp2_with (go_at_call 298; refine (Cf s _ HS.out none HP.out).mono ?_; rintro e w ⟨rfl, rfl⟩; dsimp only [u64R, Option.getD_none, Option.isSome_none])
   go_ret2
   exact ⟨by rw [← HN.out]; rfl, rfl⟩
  ·have HN : Hid (none = o) := hn
   clear hn
   go_enter Tryz.func292, Tryz.ntmps292
   go_wp2_with (go_at_call 298; refine (Cf s _ HS.out (some n) HP.out).mono ?_; rintro e w ⟨rfl, rfl⟩; dsimp only [u64R, Option.getD_some, Option.isSome_some])
   go_ret2
   exact ⟨by rw [← HN.out]; rfl, rfl⟩
  ·have HN : Hid (some (n : Int) = o) := hn
   clear hn
   go_enter Tryz.func292, Tryz.ntmps292
   go_wp2_with (go_at_call 298; refine (Cf s _ HS.out (some n) HP.out).mono ?_; rintro e w ⟨rfl, rfl⟩; dsimp only [u64R, Option.getD_some, Option.isSome_some])
   go_ret2
   exact ⟨by rw [← HN.out]; rfl, rfl⟩
theorem Parse_any (s : BA) (w : World) (hs : s.size ≤ maxLen) (o : Option Int) (ho : B0 (lst s) = o) :
  Calls Tryz.prog 292 #[.string s] w fun e w' => e = .returned (i64R o) ∧ w' = w := by
 unfold B0 at ho
 by_cases h0 : 0 < s.size
 ·have hh := head_at s h0
  by_cases hc : ((s[0]'h0).toNat : Int) = 45
  ·rw [if_pos (by rw [hh, (byte_eq hc 45 (by omega)).2 rfl]; rfl)] at ho
   exact Parse_minus s w hs h0 hc o ho
  ·rw [if_neg (by
    intro h2
    rw [hh] at h2
    exact hc ((byte_eq rfl 45 (by omega)).1 (Option.some.inj h2)))] at ho
   exact Parse_plain s w hs (.inr ⟨h0, _, rfl, by simpa using hc⟩) o ho
 ·have hz : s.size = 0 := by omega
  have hl : lst s = [] := by
   have : (lst s).length = 0 := by rw [Array.length_toList]; exact hz
   exact List.length_eq_zero_iff.1 this
  rw [if_neg (by rw [hl]; simp)] at ho
  exact Parse_plain s w hs (.inl hz) o ho
def bs (l : List UInt8) : BA := ⟨l.toArray⟩
theorem lst_bs (l : List UInt8) : lst (bs l) = l := rfl
theorem bs_lst (s : BA) : bs (lst s) = s := rfl
theorem bs_inj {l r : List UInt8} (h : bs l = bs r) : l = r := by
 have := congrArg lst h; exact this
theorem cons_bs (b : UInt8) (l : List UInt8) : (⟨#[b]⟩ : BA) ++ bs l = bs (b :: l) := ByteArray.mk_append_mk [b] l
def Un (n m : Nat) (t : List UInt8) : Prop := (t = [] ∧ m = n) ∨ (t ≠ [] ∧ (m = 0 ∧ t = dec n ∨ 0 < m ∧ dec m ++ t = dec n))
theorem Un.eq {n m : Nat} {t : List UInt8} (h : Un n m t) (hc : 0 < m ∨ t = []) : dec m ++ t = dec n := by
 rcases h with ⟨rfl, rfl⟩ | ⟨hne, ⟨h1, -⟩ | ⟨-, h2⟩⟩
 ·simp
 ·rcases hc with hc | hc
  ·omega
  ·exact absurd hc hne
 ·exact h2
theorem Un.step {n m : Nat} {t : List UInt8} (h : Un n m t) (hc : 0 < m ∨ t = []) : Un n (m / 10) (UInt8.ofNat (48 + m % 10) :: t) := by
 have e := h.eq hc
 refine .inr ⟨by simp, ?_⟩
 by_cases hm : m < 10
 ·refine .inl ⟨by omega, ?_⟩
  rw [dec_low hm] at e
  rw [← e, Nat.mod_eq_of_lt hm]; rfl
 ·refine .inr ⟨by omega, ?_⟩
  rw [dec_high hm] at e
  rw [← e]; simp
theorem Un.len {n m : Nat} {t : List UInt8} (h : Un n m t) (hc : 0 < m ∨ t = []) (hn : n < 18446744073709551616) : t.length < 20 := by
 have e := congrArg List.length (h.eq hc)
 have := dec_len20 hn
 have hp : 0 < (dec m).length := List.length_pos_iff.2 (dec_ne m)
 simp at e; omega
theorem Un.done {n m : Nat} {t : List UInt8} (h : Un n m t) (hm : m = 0) (ht : t ≠ []) : dec n = t := by
 rcases h with ⟨h, -⟩ | ⟨-, ⟨-, h⟩ | ⟨h, -⟩⟩
 ·exact absurd h ht
 ·exact h.symm
 ·omega
structure Room (w wr : World) (t : List UInt8) : Prop where
 below : Below w.heap.size w wr
 size : w.heap.size < wr.heap.size
 cell : ∀ j (h : j < t.length), wr.cell? ⟨w.heap.size, 20 - t.length + j, none⟩ = some (.int .u8 (t[j].toNat : Nat))
 any : ∀ j, j < 20 → ∃ v, wr.cell? ⟨w.heap.size, j, none⟩ = some v
 free : ∀ j, j < 20 → wr.frozen? ⟨w.heap.size, j, none⟩ = false
theorem Room.set {w wr : World} {t : List UInt8} (R : Room w wr t) (f : Nat) (hf : f + 1 + t.length = 20) (b : UInt8) (x : Int) (hx : x = (b.toNat : Nat)) : Room w (wr.setCell ⟨w.heap.size, f, none⟩ (.int .u8 x)) (b :: t) where
 below := R.below.setCell (Nat.le_refl _) _
 size := by simpa using R.size
 cell j hj := by
  rw [List.length_cons] at hj
  rw [show 20 - (b :: t).length + j = f + j by simp; omega]
  cases j with
  | zero =>
   obtain ⟨v, hv⟩ := R.any f (by omega)
   rw [Nat.add_zero, World.cell?_setCell_same _ _ _ hv, hx]; rfl
  | succ j =>
   rw [World.cell?_setCell_other (a := ⟨w.heap.size, f, none⟩) (b := ⟨w.heap.size, f + (j + 1), none⟩) _ _ (by intro h; injection h; omega)]
   have := R.cell j (by omega)
   rw [show 20 - t.length + j = f + (j + 1) by omega] at this
   rw [this]; rfl
 any j hj := by
  by_cases e : j = f
  ·subst e
   obtain ⟨v, hv⟩ := R.any j hj
   exact ⟨_, World.cell?_setCell_same _ _ _ hv⟩
  ·rw [World.cell?_setCell_other (a := ⟨w.heap.size, f, none⟩) (b := ⟨w.heap.size, j, none⟩) _ _ (by intro h; cases h; exact e rfl)]
   exact R.any j hj
 free j hj := by simpa using R.free j hj
theorem digit_int {m : Nat} {M : Int} (h : (m : Int) = M) : 48 + M % 10 = ((UInt8.ofNat (48 + m % 10)).toNat : Nat) := by
 rw [digit_toNat _ (by omega)]; omega
set_option maxHeartbeats 1000000 in
theorem Unsigned_any (n : Nat) (w : World) (hn : n < 18446744073709551616) :
  Calls Tryz.prog 295 #[.int .u64 n] w fun e w' => e = .returned (.string (bs (dec n))) ∧ Below w.heap.size w w' := by
 have HN : Hid (n < 18446744073709551616) := hn
 go_enter Tryz.func295, Tryz.ntmps295
 go_wp2
 go_loopg [0, 4] 20 (fun g mv fv wr => ∃ (m : Nat) (t : List UInt8), t.length + g = 20 ∧ m < 18446744073709551616 ∧ mv = .int .u64 m ∧ fv = .int .i64 (20 - t.length : Int) ∧ Hid (Room w wr t) ∧ Hid (Un n m t))
 case atStart =>
  refine ⟨n, [], rfl, hn, rfl, rfl, ?_, .inl ⟨rfl, rfl⟩⟩
  refine ⟨(Below.refl _ _).alloc (Nat.le_refl _) _, by simp, fun j hj => absurd hj (by simp), fun j hj => ?_, fun j hj => ?_⟩
  ·rcases j with _|_|_|_|_|_|_|_|_|_|_|_|_|_|_|_|_|_|_|_|j
   all_goals first | omega | exact ⟨.int .u8 0, by simp⟩
  ·rcases j with _|_|_|_|_|_|_|_|_|_|_|_|_|_|_|_|_|_|_|_|j
   all_goals first | omega | simp
 case round =>
  obtain ⟨m, t, hg, hm, rfl, rfl, R, H⟩ := hrel
  have HG : Hid (t.length + gk = 20) := hg
  obtain ⟨M, hM⟩ : ∃ M : Int, (m : Int) = M := ⟨_, rfl⟩
  rw [hM]
  have HM : Hid ((m : Int) = M) := hM
  have hM0 : 0 ≤ M ∧ M < 18446744073709551616 := by omega
  clear hM hm
  by_cases ht : t = []
  ·subst ht
   clear hg
   obtain ⟨v, hv⟩ := R.out.any 19 (by omega)
   have hf := R.out.free 19 (by omega)
   rw [show (20 - (([] : List UInt8).length : Int)) = 20 from rfl]
   go_wp2
   go_roundg (gk - 1)
   case measure => have := HG.out; simp at this; omega
   case rel => exact ⟨m / 10, [UInt8.ofNat (48 + m % 10)], by have := HG.out; simp at this ⊢; omega, by have := HM.out; omega, by have := HM.out; go_num, rfl, R.out.set 19 rfl _ _ (digit_int HM.out), H.out.step (.inr rfl)⟩
  by_cases hp : 0 < M
  ·have HC : Hid (0 < m ∨ t = []) := .inl (by have := HM.out; omega)
   have hlen := H.out.len HC.out HN.out
   have hlp : 0 < t.length := List.length_pos_iff.2 ht
   obtain ⟨f, hF⟩ : ∃ f : Nat, f + 1 + t.length = 20 := ⟨19 - t.length, by omega⟩
   rw [show (20 - (t.length : Int)) = (f : Int) + 1 by omega]
   have HF : Hid (f + 1 + t.length = 20) := hF
   have hf19 : (f : Int) < 19 := by omega
   have hq : ((f : Int) + 1 == 20) = false := by simp; omega
   obtain ⟨v, hv⟩ := R.out.any f (by omega)
   have hf := R.out.free f (by omega)
   clear hg hlen hlp hF ht
   go_wp2
   go_roundg (gk - 1)
   case measure => have := HG.out; have := HF.out; omega
   case rel => exact ⟨m / 10, UInt8.ofNat (48 + m % 10) :: t, by have := HG.out; have := HF.out; simp; omega, by have := HM.out; omega, by have := HM.out; go_num, by have := HF.out; simp; omega, R.out.set f HF.out _ _ (digit_int HM.out), H.out.step HC.out⟩
  ·have HT : Hid (t ≠ []) := ht
   have hle : t.length ≤ 20 := by omega
   have hlp : 0 < t.length := List.length_pos_iff.2 ht
   obtain ⟨f, hF⟩ : ∃ f : Nat, f + t.length = 20 := ⟨20 - t.length, by omega⟩
   rw [show (20 - (t.length : Int)) = (f : Int) by omega]
   have HF : Hid (f + t.length = 20) := hF
   have hf19 : (f : Int) < 20 := by omega
   have hq : ((f : Int) == 20) = false := by simp; omega
   have hsl : (Instr.sliceAt 351 (.pointer (some ⟨w.heap.size, 0, none⟩)) (some (.int .i64 (f : Int))) none none).run Tryz.prog wr = .ok (.slice (some ⟨w.heap.size, f, none⟩) t.length t.length) wr := by
    rw [run_sliceAt_array_l wr 351 ⟨w.heap.size, 0, none⟩ (by simp [Program.arrayLen, Program.elem, Tryz.underlying351]) .i64 (f : Int) (by omega) (by simp [Program.arrayLen, Tryz.underlying351]; omega)]
    rw [show Tryz.prog.arrayLen 351 = f + t.length by simp [Program.arrayLen, Tryz.underlying351]; omega]
    go_simp
    exact ⟨by omega, by omega⟩
   have hcv := run_convert_bytes_back (P := Tryz.prog) wr 32 9 5 ⟨w.heap.size, f, none⟩ t.length t Tryz.underlying32 Tryz.underlying5 Tryz.underlying9 (fun j hj => by
    have := R.out.cell j hj
    have e0 : (⟨w.heap.size, f, none⟩ : Addr).add j = ⟨w.heap.size, 20 - t.length + j, none⟩ := by
     have := HF.out
     rw [show 20 - t.length + j = f + j by omega]
     simp only [Addr.add]; split <;> simp_all
    rw [e0]; exact this)
   clear hg hle hlp hF ht
   go_wp2
   go_ret
   exact ⟨by rw [H.out.done (by have := HM.out; omega) HT.out]; rfl, R.out.below⟩
theorem fmtL_neg {n : Int} (h : n < 0) : fmtL n = 45 :: dec (-n).toNat := by unfold fmtL; rw [if_pos h]
theorem fmtL_pos {n : Int} (h : ¬ n < 0) : fmtL n = dec n.toNat := by unfold fmtL; rw [if_neg h]
theorem minus_bs (l : List UInt8) : (⟨#[45]⟩ : BA) ++ bs l = bs (45 :: l) := cons_bs 45 l
theorem Format_any (n : Int) (w : World) (h1 : -9223372036854775808 ≤ n) (h2 : n < 9223372036854775808) :
  Calls Tryz.prog 273 #[.int .i64 n] w fun e w' => e = .returned (.string (bs (fmtL n))) ∧ Below w.heap.size w w' := by
 by_cases h : n < 0
 ·have HF : Hid (bs (fmtL n) = (⟨#[45]⟩ : BA) ++ bs (dec (-n).toNat)) := by
   show _ = _; rw [fmtL_neg h, minus_bs]
  have hw : IntKind.u64.wrap n = n + 18446744073709551616 := u64_neg h (by omega)
  have hw2 : IntKind.u64.wrap (-(n + 18446744073709551616)) = ((-n).toNat : Nat) := by rw [IntKind.wrap_u64]; omega
  have HU := fun w => Unsigned_any (-n).toNat w (by omega)
  have HL : Hid ((bs (dec (-n).toNat)).size ≤ 20) := dec_len20 (n := (-n).toNat) (by omega)
  generalize (-n).toNat = k at HF hw2 HU HL
  generalize bs (dec k) = b at HF HU HL
  have hl : b.size ≤ 20 := HL.out
  go_enter Tryz.func273, Tryz.ntmps273
  go_wp2_with (go_at_call 295; refine (HU _).mono ?_; rintro e w' ⟨rfl, hb⟩)
  go_ret
  exact ⟨by rw [HF.out]; rfl, hb⟩
 ·have HF : Hid (bs (fmtL n) = bs (dec n.toNat)) := by
   show _ = _; rw [fmtL_pos h]
  have hw : IntKind.u64.wrap n = (n.toNat : Nat) := by rw [IntKind.wrap_u64]; omega
  have HU := fun w => Unsigned_any n.toNat w (by omega)
  generalize n.toNat = k at HF hw HU
  go_enter Tryz.func273, Tryz.ntmps273
  go_wp2_with (go_at_call 295; refine (HU _).mono ?_; rintro e w' ⟨rfl, hb⟩)
  go_ret
  exact ⟨by rw [HF.out]; rfl, hb⟩
theorem toList_beq (a b : BA) : (a.toList == b.toList) = decide (a = b) := by
 rw [ByteArray.toList_eq, ByteArray.toList_eq]
 by_cases h : a = b
 ·rw [decide_eq_true h, h]; simp
 ·rw [decide_eq_false h, beq_eq_false_iff_ne]
  intro e
  exact h (by rw [← bs_lst a, ← bs_lst b]; exact congrArg bs e)
theorem len_lst (s : BA) : (lst s).length = s.size := rfl
theorem byte_le (b : UInt8) {c : Int} (h : (b.toNat : Int) = c) : 0 ≤ c ∧ c ≤ 255 := by have := b.toNat_lt; omega
theorem Aa (w : World) : ∀ n, Below w.heap.size w (w.drewN n)
 | 0 => Below.refl _ _
 | n + 1 => (Aa w n).drew
theorem Ad {w w1 w2 : World} (h : Hid (Below w.heap.size w w1)) (hb : Below w1.heap.size w1 w2) : Hid (Below w.heap.size w w2) := h.out.trans (hb.mono h.out.size)
structure Rd (w : World) (a : Option Addr) (n cap : Nat) (l : List UInt8) : Prop where
 len : l.length = n
 fit : n ≤ cap
 max : cap ≤ maxLen
 nul : a = none → cap = 0
 cell : ∀ j, j < n → ∃ b off, a = some ⟨b, off, none⟩ ∧ w.cell? ⟨b, off + j, none⟩ = some (.int .u8 ((l.getD j 0).toNat : Nat))
theorem Rd.keep {w wn : World} {a : Option Addr} {n cap : Nat} {l : List UInt8} (h : Rd w a n cap l) (hb : Below w.heap.size w wn) : Rd wn a n cap l :=
 ⟨h.len, h.fit, h.max, h.nul, fun j hj => by
  obtain ⟨b, off, e, hc⟩ := h.cell j hj
  exact ⟨b, off, e, by rw [hb.cell (p := ⟨b, off + j, none⟩) (World.block_lt_of_cell? _ _ hc)]; exact hc⟩⟩
theorem Rd.nil (w : World) : Rd w none 0 0 [] := ⟨rfl, Nat.le_refl _, by decide, fun _ => rfl, fun j hj => absurd hj (Nat.not_lt_zero _)⟩
theorem Af (b off j : Nat) : (⟨b, off, none⟩ : Addr).add j = ⟨b, off + j, none⟩ := by simp only [Addr.add]; split <;> simp_all
theorem Rd.sub {w : World} {a : Option Addr} {n cap : Nat} {l : List UInt8} (h : Rd w a n cap l) (lo hi : Nat) (h1 : lo ≤ hi) (h2 : hi ≤ n) :
  Rd w (if cap = lo then a else a.map (·.add (lo * 1))) (hi - lo) (cap - lo) ((l.drop lo).take (hi - lo)) := by
 refine ⟨?_, ?_, ?_, fun hn => ?_, fun j hj => ?_⟩
 ·rw [List.length_take, List.length_drop, h.len]; omega
 ·have := h.fit; omega
 ·have := h.max; omega
 ·cases a with
  | none => have := h.nul rfl; omega
  | some x => split at hn <;> simp at hn
 ·obtain ⟨b, off, e, hc⟩ := h.cell (lo + j) (by omega)
  subst e
  have hne : ¬ cap = lo := by have := h.fit; omega
  refine ⟨b, off + lo, ?_, ?_⟩
  ·rw [if_neg hne, Option.map_some, Nat.mul_one, Af]
  ·rw [Nat.add_assoc, hc, List.getD_eq_getElem?_getD, List.getD_eq_getElem?_getD, List.getElem?_take, if_pos hj, List.getElem?_drop]
theorem Tryz.size5 (w : World) : (sizeOf 5).run Tryz.prog w = .ok 1 w := by go_simp
theorem Tryz.elem32 : Tryz.prog.elem 32 = 5 := by simp [Program.elem, Tryz.underlying32]
theorem Rd.slice_lh {w : World} {a : Option Addr} {n cap : Nat} {l : List UInt8} (h : Rd w a n cap l) (lo hi : Nat) (h1 : lo ≤ hi) (h2 : hi ≤ n) :
  ∃ a' cap', (∀ wx, (Instr.sliceAt 32 (.slice a n cap) (some (.int .i64 lo)) (some (.int .i64 hi)) none).run Tryz.prog wx = .ok (.slice a' (hi - lo) cap') wx) ∧ Rd w a' (hi - lo) cap' ((l.drop lo).take (hi - lo)) := by
 refine ⟨_, _, fun wx => ?_, h.sub lo hi h1 h2⟩
 have ht : Tryz.prog.underlying 32 = some (.slice (Tryz.prog.elem 32)) := by rw [Tryz.elem32]; exact Tryz.underlying32
 rw [run_sliceAt_slice _ _ _ _ _ _ ht, run_slice_lh (P := Tryz.prog) wx 32 a n cap ht .i64 .i64 lo hi (by omega) (by omega) (by have := h.fit; omega), Tryz.elem32, Tryz.size5]
 simp [Result.andThen, sliced]
theorem Rd.slice_l {w : World} {a : Option Addr} {n cap : Nat} {l : List UInt8} (h : Rd w a n cap l) (lo : Nat) (h1 : lo ≤ n) :
  ∃ a' cap', (∀ wx, (Instr.sliceAt 32 (.slice a n cap) (some (.int .i64 lo)) none none).run Tryz.prog wx = .ok (.slice a' (n - lo) cap') wx) ∧ Rd w a' (n - lo) cap' (l.drop lo) := by
 have hs := h.sub lo n h1 (Nat.le_refl _)
 rw [List.take_of_length_le (by rw [List.length_drop, h.len]; omega)] at hs
 refine ⟨_, _, fun wx => ?_, hs⟩
 have ht : Tryz.prog.underlying 32 = some (.slice (Tryz.prog.elem 32)) := by rw [Tryz.elem32]; exact Tryz.underlying32
 rw [run_sliceAt_slice _ _ _ _ _ _ ht, run_slice_l (P := Tryz.prog) wx 32 a n cap ht .i64 lo (by omega) (by omega), Tryz.elem32, Tryz.size5]
 simp [Result.andThen, sliced]
theorem Rd.slice_h {w : World} {a : Option Addr} {n cap : Nat} {l : List UInt8} (h : Rd w a n cap l) (hi : Nat) (h1 : hi ≤ n) :
  ∃ a' cap', (∀ wx, (Instr.sliceAt 32 (.slice a n cap) none (some (.int .i64 hi)) none).run Tryz.prog wx = .ok (.slice a' hi cap') wx) ∧ Rd w a' hi cap' (l.take hi) := by
 have hs := h.sub 0 hi (Nat.zero_le _) h1
 rw [List.drop_zero, Nat.sub_zero, Nat.sub_zero] at hs
 refine ⟨_, _, fun wx => ?_, hs⟩
 have ht : Tryz.prog.underlying 32 = some (.slice (Tryz.prog.elem 32)) := by rw [Tryz.elem32]; exact Tryz.underlying32
 rw [run_sliceAt_slice _ _ _ _ _ _ ht, run_slice_h (P := Tryz.prog) wx 32 a n cap ht .i64 hi (by omega) (by have := h.fit; omega), Tryz.elem32, Tryz.size5]
 simp [Result.andThen, sliced]
theorem Rd.text {w : World} {a : Option Addr} {n cap : Nat} {l : List UInt8} (h : Rd w a n cap l) : (convert 32 9 (.slice a n cap)).run Tryz.prog w = .ok (.string (bs l)) w := by
 have hn := h.len
 subst hn
 cases a with
 | none =>
  have h0 : l = [] := by
   cases l with
   | nil => rfl
   | cons x r =>
    obtain ⟨b, off, e, -⟩ := h.cell 0 (by simp)
    cases e
  subst h0
  rw [run_convert_bytes_string w 32 9 5 none _ cap Tryz.underlying32 Tryz.underlying5 Tryz.underlying9]
  rfl
 | some a =>
  refine run_convert_bytes_back (P := Tryz.prog) w 32 9 5 a cap l Tryz.underlying32 Tryz.underlying5 Tryz.underlying9 fun j hj => ?_
  obtain ⟨b, off, e, hc⟩ := h.cell j hj
  cases e
  rw [Af, hc, List.getD_eq_getElem?_getD, List.getElem?_eq_getElem hj, Option.getD_some]
def cells (l : List UInt8) : List Value := l.map fun b => Value.int .u8 b.toNat
theorem Av (l r : List UInt8) : cells (l ++ r) = cells l ++ cells r := List.map_append ..
theorem Bd (l : List UInt8) : ∀ u ∈ cells l, u.oneCell' = true := by
 intro u hu
 simp only [cells, List.mem_map] at hu
 obtain ⟨b, _, rfl⟩ := hu
 rfl
def Own (w : World) (B : Nat) (a : Option Addr) (n cap : Nat) (l : List UInt8) : Prop := w.ownsRow B 5 1 (.slice a n cap) n (cells l)
theorem Own.len {w : World} {B : Nat} {a : Option Addr} {n cap : Nat} {l : List UInt8} (h : Own w B a n cap l) : l.length = n := by
 have := h.1; simpa [cells] using this
theorem Own.low {w : World} {B C : Nat} {a : Option Addr} {n cap : Nat} {l : List UInt8} (h : Own w B a n cap l) (hC : C ≤ B) : Own w C a n cap l := by
 refine ⟨h.1, ?_⟩
 rcases h.2 with h2 | ⟨g, c, cur, h1, h3, h4⟩
 ·exact .inl h2
 ·exact .inr ⟨g, c, cur, h1, Nat.le_trans hC h3, h4⟩
theorem Own.keep {w wn : World} {B : Nat} {a : Option Addr} {n cap : Nat} {l : List UInt8} (h : Own w B a n cap l) (hb : Below w.heap.size w wn) : Own wn B a n cap l := by
 refine ⟨h.1, ?_⟩
 rcases h.2 with h2 | ⟨g, c, cur, h1, h3, h4, h5⟩
 ·exact .inl h2
 ·refine .inr ⟨g, c, cur, h1, h3, ?_, h5⟩
  rw [hb.block g (Array.getElem?_eq_some_iff.1 h4).1]; exact h4
theorem Own.nil (w : World) (B : Nat) : Own w B none 0 0 [] := World.ownsRow_nil w B 5 1
theorem Own.rd {w : World} {B : Nat} {a : Option Addr} {n cap : Nat} {l : List UInt8} (h : Own w B a n cap l) : Rd w a n cap l := by
 have hl := h.len
 rcases h.2 with ⟨h2, h3⟩ | ⟨g, c, cur, h1, h3, h4, h5, h6, h7, h8⟩
 ·cases h2
  have : l = [] := List.length_eq_zero_iff.1 (by omega)
  subst this
  exact Rd.nil w
 ·cases h1
  refine Rd.mk hl h5 h6 (fun e => nomatch e) (fun j hj => ⟨g, 0, rfl, ?_⟩)
  have := h.cells (g := g) rfl j (.int .u8 ((l.getD j 0).toNat : Nat)) (by
   simp only [cells, List.getElem?_map, List.getD_eq_getElem?_getD]
   rw [List.getElem?_eq_getElem (by omega)]; rfl)
  rw [Af] at this
  rw [Nat.zero_add] at this ⊢
  exact this
theorem Own.block {w : World} {B : Nat} {a : Option Addr} {n cap : Nat} {l : List UInt8} (h : Own w B a n cap l) : ∀ k, (Value.slice a n cap).ownBlock = some k → B ≤ k := fun k hk => (h.lt k hk).1
theorem Own.made (w : World) (l : List UInt8) (B n : Nat) (hn : l.length = n) (hB : B ≤ w.heap.size) (hm : n ≤ maxLen) : Own (w.alloc (.cells (cells l).toArray 5)) B (some ⟨w.heap.size, 0, none⟩) n n l := by
 refine ⟨by simp [cells, hn], .inr ⟨w.heap.size, n, (cells l).toArray, rfl, hB, heap_alloc_new w _, Nat.le_refl _, hm, by simp [cells, hn], ?_⟩⟩
 rw [List.take_of_length_le (by simp [cells, hn])]
theorem Tryz.info5 : (Tryz.prog.info? 5).map (fun i => (i.zero, i.size, i.bytes)) = some (some (.int .u8 0), 1, 1) := by kernel_rfl
theorem append_row {w : World} {ops : Array Oper} {rest : List Oper} {o : Oper} {ac : Act} {Q : Exit → Act → World → Prop} (hgd : o.guard = none) (s x : Operand) (ho : o.op = .call { callee := .builtin .append, args := #[s, x], argTypes := #[32, 32] })
  (B : Nat) {a : Option Addr} {n cap : Nat} {l : List UInt8} (hs : ac.eval s = .slice a n cap) (hown : Own w B a n cap l)
  {a' : Option Addr} {n' cap' : Nat} {r : List UInt8} (hx : ac.eval x = .slice a' n' cap') (hr : Rd w a' n' cap' r) (hb : n + n' ≤ 140737488355328) (hB : B ≤ w.heap.size)
  (h : ∀ a2 n2 c2 w2, n2 = n + n' → Own w2 B a2 n2 c2 (l ++ r) → Below B w w2 → wpList Tryz.prog ops Q rest (ac.put o.dst (.slice a2 n2 c2)) w2) : wpList Tryz.prog ops Q (o :: rest) ac w := by
 obtain ⟨i0, hi, hz0, hz1, hz2⟩ := info_parts Tryz.info5
 have hend : ∀ v' w', w'.ownsRow B 5 1 v' (n + n') (cells l ++ cells r) → w.grownBy w' (Value.slice a n cap).ownBlock → wpList Tryz.prog ops Q rest (ac.put o.dst v') w' := by
  intro v' w' h1 h2
  have hbel : Below B w w' := (Below.refl B w).grown h2 hB hown.block
  rw [← Av] at h1
  rcases h1.2 with ⟨rfl, h3⟩ | ⟨g, c, cur, rfl, h3⟩
  ·refine h none 0 0 w' h3.symm ?_ hbel
   unfold Own; rw [h3] at h1; exact h1
  ·exact h _ _ _ w' rfl h1 hbel
 cases a' with
 | none =>
  have hr0 : r = [] := by
   cases r with
   | nil => rfl
   | cons y ys =>
    obtain ⟨b, off, e, -⟩ := hr.cell 0 (by rw [← hr.len]; simp)
    cases e
  subst hr0
  have hn0 : n' = 0 := by rw [← hr.len]; rfl
  subst hn0
  have hc0 := hr.nul rfl
  subst hc0
  refine wpList_append_own_none hgd s x 32 ho B 5 i0 1 Tryz.underlying32 hi (.slice a n cap) n (cells l) hs hown hx ?_
  exact hend _ w (by rw [show cells [] = [] from rfl, List.append_nil]; exact hown) ⟨rfl, rfl, rfl, Nat.le_refl _, fun _ _ _ => rfl⟩
 | some ad =>
  refine wpList_append_own w hgd s x 32 ho B 5 i0 (.int .u8 0) 1 1 Tryz.underlying32 hi hz0 hz1 hz2 rfl (by decide) (.slice a n cap) n (cells l) hs hown ad n' cap' (cells r) hx ?_ ?_ (Bd r) ?_ ?_ hB (fun v' w' h1 h2 _ => hend v' w' h1 h2)
  ·simp [cells, hr.len]
  ·intro j u hu
   simp only [cells, List.getElem?_map] at hu
   have hj : j < r.length := by
    rcases Nat.lt_or_ge j r.length with h | h
    ·exact h
    ·rw [List.getElem?_eq_none h] at hu; cases hu
   obtain ⟨b, off, e, hc⟩ := hr.cell j (by rw [← hr.len]; exact hj)
   cases e
   rw [Af, hc, List.getD_eq_getElem?_getD]
   rw [List.getElem?_eq_getElem hj] at hu ⊢
   exact hu
  ·unfold maxLen; omega
  ·omega
theorem append_text {w : World} {ops : Array Oper} {rest : List Oper} {o : Oper} {ac : Act} {Q : Exit → Act → World → Prop} (hgd : o.guard = none) (s x : Operand) (ho : o.op = .call { callee := .builtin .append, args := #[s, x], argTypes := #[32, 9] })
  (B : Nat) {a : Option Addr} {n cap : Nat} {l : List UInt8} (hs : ac.eval s = .slice a n cap) (hown : Own w B a n cap l)
  {t : BA} (hx : ac.eval x = .string t) (hb : n + t.size ≤ 140737488355328) (hB : B ≤ w.heap.size)
  (h : ∀ a2 n2 c2 w2, n2 = n + t.size → Own w2 B a2 n2 c2 (l ++ lst t) → Below B w w2 → wpList Tryz.prog ops Q rest (ac.put o.dst (.slice a2 n2 c2)) w2) : wpList Tryz.prog ops Q (o :: rest) ac w := by
 obtain ⟨i0, hi, hz0, hz1, hz2⟩ := info_parts Tryz.info5
 refine Lib.wpList_append_own_string w hgd s x 32 9 ho B 5 i0 Tryz.underlying32 Tryz.underlying9 hi hz0 hz1 hz2 (.slice a n cap) n (cells l) hs hown t hx (by unfold maxLen; omega) hb hB ?_
 intro v' w' h1 h2 _
 have hbel : Below B w w' := (Below.refl B w).grown h2 hB hown.block
 have e1 : cells l ++ Lib.strCells t = cells (l ++ lst t) := by rw [Av]; rfl
 rw [e1] at h1
 rcases h1.2 with ⟨rfl, h3⟩ | ⟨g, c, cur, rfl, h3⟩
 ·refine h none 0 0 w' h3.symm ?_ hbel
  unfold Own; rw [h3] at h1; exact h1
 ·exact h _ _ _ w' rfl h1 hbel
theorem Equal_any (a a' : Option Addr) (n n' cap cap' : Nat) (l l' : List UInt8) (w : World) (h : Rd w a n cap l) (h' : Rd w a' n' cap' l') :
  Calls Tryz.prog 276 #[.slice a n cap, .slice a' n' cap'] w fun e w' => e = .returned (.bool (decide (l = l'))) ∧ w' = w := by
 have hc := h.text
 have hc' := h'.text
 have HE : Hid (((bs l).toList == (bs l').toList) = decide (l = l')) := by
  show _ = _
  rw [toList_beq, Bool.eq_iff_iff]
  simp only [decide_eq_true_eq]
  exact ⟨fun e => bs_inj e, fun e => by rw [e]⟩
 clear h h'
 go_enter Tryz.func276, Tryz.ntmps276
 go_wp2
 go_ret
 exact ⟨by rw [← HE.out]; rfl, rfl⟩
end Go.Proofs.YtmjeljldmmkcpaaGreat
