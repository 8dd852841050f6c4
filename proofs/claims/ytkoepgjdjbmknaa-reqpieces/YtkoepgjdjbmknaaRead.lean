/-
  Rows of digits, read: fits, digits, plainDigits, parseBelow, Parse, Cursor.
-/
import Derived.Test.YtkoepgjdjbmknaaProg
import Derived.Test.YtkoepgjdjbmknaaDec
import Derived.WalkKit
import Derived.WalkSpells
import Derived.Laws.IdiomStrings
import Derived.Deep.LoopGhost
import Derived.Deep.Cut
import Derived.PlainAid
import Derived.Lib.IndexBytes
import Derived.Elder7
namespace Go.Proofs.Ytkoepgjdjbmknaa
open Go.RowKit Go.PlainAid

/-- A text's bytes. -/
abbrev lst (s : ByteArray) : List UInt8 := s.data.toList
def u64R (o : Option Nat) : Value := .tuple #[.int .u64 (o.getD 0 : Nat), .bool o.isSome]
def i64R (o : Option Int) : Value := .tuple #[.int .i64 (o.getD 0), .bool o.isSome]

theorem fits_yes (n d : Int) (w : World) (h0 : 0 ≤ d) (h9 : d ≤ 9) (hf : n * 10 + d < 18446744073709551616) :
    Calls Try.prog 65 #[.int .u64 n, .int .u64 d] w fun e w' => e = .returned (.bool true) ∧ w' = w := by
  have hq : n ≤ (18446744073709551615 - d) / 10 := by omega
  go_enter Try.func65, Try.ntmps65
  go_wp2
  go_ret
  exact ⟨rfl, rfl⟩
theorem fits_no (n d : Int) (w : World) (h0 : 0 ≤ d) (h9 : d ≤ 9) (hf : ¬ n * 10 + d < 18446744073709551616) :
    Calls Try.prog 65 #[.int .u64 n, .int .u64 d] w fun e w' => e = .returned (.bool false) ∧ w' = w := by
  have hq : ¬ n ≤ (18446744073709551615 - d) / 10 := by omega
  go_enter Try.func65, Try.ntmps65
  go_wp2
  go_ret
  exact ⟨rfl, rfl⟩

theorem drop_at (s : ByteArray) (k : Nat) (h : k < s.size) : (lst s).drop k = s[k] :: (lst s).drop (k + 1) := by
  rw [List.drop_eq_getElem_cons (by simpa using h)]; rfl

theorem rd_bad {l r : List UInt8} {b : UInt8} {n : Nat} {c : Int} (hl : l = b :: r) (hc : (b.toNat : Int) = c) (h : c < 48 ∨ 57 < c ∨ ¬ (n : Int) * 10 + (c - 48) < 18446744073709551616) : rd n l = none := by
  subst hl
  simp only [rd]
  rw [if_neg (by omega)]
theorem rd_good {l r : List UInt8} {b : UInt8} {n : Nat} {c : Int} (hl : l = b :: r) (hc : (b.toNat : Int) = c) (h1 : 48 ≤ c) (h2 : c ≤ 57) (h3 : (n : Int) * 10 + (c - 48) < 18446744073709551616) : rd n l = rd ((n : Int) * 10 + (c - 48)).toNat r := by
  subst hl
  simp only [rd]
  rw [if_pos (by omega)]
  congr 1; omega

theorem digits_none (w : World) : Calls Try.prog 64 #[.string ⟨#[]⟩] w fun e w' => e = .returned (u64R none) ∧ w' = w := by
  go_enter Try.func64, Try.ntmps64
  go_wp2
  go_ret2
  exact ⟨rfl, rfl⟩

set_option maxHeartbeats 1000000 in
theorem digits_any (s : ByteArray) (w : World) (hs : s.size ≤ maxLen) (o : Option Nat) (ho : digitsL (lst s) = o) :
    Calls Try.prog 64 #[.string s] w fun e w' => e = .returned (u64R o) ∧ w' = w := by
  unfold maxLen at hs
  by_cases he : lst s = []
  · have hs0 : s = ⟨#[]⟩ := by
      cases s with
      | mk d => have : d.toList = [] := he
                rw [Array.toList_eq_nil_iff] at this; rw [this]
    subst hs0
    rw [← ho]
    exact digits_none w
  have HO : Hid (rd 0 (lst s) = o) := by show rd 0 _ = _; rw [← ho]; unfold digitsL; rw [if_neg he]
  have hne : s.toList.isEmpty = false := by
    rw [ByteArray.toList_eq]; simpa using he
  clear ho he
  go_enter Try.func64, Try.ntmps64
  go_wp2
  go_loopg [4, 5] s.size (fun g nv i wr => w = wr ∧ ∃ k n : Nat, k + g = s.size ∧ i = .int .i64 k ∧ nv = .int .u64 n ∧ n < 18446744073709551616 ∧ Hid (rd n ((lst s).drop k) = o))
  case atStart => exact ⟨rfl, 0, 0, by omega, rfl, rfl, by omega, HO⟩
  case round =>
    obtain ⟨rfl, k, n, hk, rfl, rfl, hn, H⟩ := hrel
    have HK : Hid (k + gk = s.size) := hk
    clear hk HO
    by_cases hlt : k < s.size
    · have HD : Hid ((lst s).drop k = s[k] :: (lst s).drop (k + 1)) := drop_at s k hlt
      obtain ⟨c, hc⟩ : ∃ c : Int, ((s[k]'hlt).toNat : Int) = c := ⟨_, rfl⟩
      have hc0 : 0 ≤ c ∧ c ≤ 255 := by have := (s[k]'hlt).toNat_lt; omega
      have HC : Hid (((s[k]'hlt).toNat : Int) = c) := hc
      have e1 : IntKind.u64.wrap c = c := u64_nonneg (by omega) (by omega)
      by_cases h1 : c < 48
      · have e2 : IntKind.u64.wrap (c - 48) = c - 48 + 18446744073709551616 := u64_neg (by omega) (by omega)
        have HN : Hid (none = o) := (rd_bad HD.out HC.out (by omega)).symm.trans H.out
        go_wp2
        go_ret2
        exact ⟨by rw [← HN.out]; rfl, rfl⟩
      by_cases h2 : 57 < c
      · have HN : Hid (none = o) := (rd_bad HD.out HC.out (by omega)).symm.trans H.out
        go_wp2
        go_ret2
        exact ⟨by rw [← HN.out]; rfl, rfl⟩
      by_cases h3 : (n : Int) * 10 + (c - 48) < 18446744073709551616
      · have HN : Hid (rd ((n : Int) * 10 + (c - 48)).toNat ((lst s).drop (k + 1)) = o) := (rd_good HD.out HC.out (by omega) (by omega) h3).symm.trans H.out
        go_wp2_with (go_at_call 65; refine (fits_yes _ _ _ (by omega) (by omega) h3).mono ?_; rintro e w ⟨rfl, rfl⟩)
        go_roundg (gk - 1)
        case measure => have := HK.out; omega
        case rel => exact ⟨rfl, k + 1, ((n : Int) * 10 + (c - 48)).toNat, by have := HK.out; omega, by go_num, by go_num, by omega, HN⟩
      · have HN : Hid (none = o) := (rd_bad HD.out HC.out (by omega)).symm.trans H.out
        go_wp2_with (go_at_call 65; refine (fits_no _ _ _ (by omega) (by omega) h3).mono ?_; rintro e w ⟨rfl, rfl⟩)
        go_ret2
        exact ⟨by rw [← HN.out]; rfl, rfl⟩
    · have HN : Hid (some n = o) := by
        have := H.out
        rw [List.drop_eq_nil_of_le (by simp; omega)] at this
        exact this
      go_wp2
      go_ret2
      exact ⟨by rw [← HN.out]; rfl, rfl⟩

theorem head_at (s : ByteArray) (h : 0 < s.size) : (lst s).head? = some (s[0]'h) := by
  have := drop_at s 0 h
  rw [List.drop_zero] at this
  rw [this]; rfl
theorem tail_at (s : ByteArray) : lst (s.extract 1 s.size) = (lst s).tail := by
  unfold lst; rw [Lib.extract_to_end, List.drop_one]
theorem byte_eq {b : UInt8} {c : Int} (h : (b.toNat : Int) = c) (k : Nat) (hk : k < 256) : b = UInt8.ofNat k ↔ c = k := by
  constructor
  · rintro rfl
    rw [UInt8.toNat_ofNat'] at h; omega
  · intro e
    have : b.toNat = k := by omega
    rw [← this]; simp

theorem plain_any (s : ByteArray) (w : World) (hs : s.size ≤ maxLen) (o : Option Nat) (ho : plainL (lst s) = o) :
    Calls Try.prog 61 #[.string s] w fun e w' => e = .returned (u64R o) ∧ w' = w := by
  have HS : Hid (s.size ≤ maxLen) := hs
  unfold maxLen at hs
  by_cases hlt : 1 < s.size
  · have h0 : 0 < s.size := by omega
    obtain ⟨c, hc⟩ : ∃ c : Int, ((s[0]'h0).toNat : Int) = c := ⟨_, rfl⟩
    have hh := head_at s h0
    by_cases h48 : c = 48
    · subst h48
      have HN : Hid (none = o) := by
        show none = o
        rw [← ho, plainL, if_pos]
        refine ⟨by simpa using hlt, ?_⟩
        rw [hh, (byte_eq hc 48 (by omega)).2 rfl]; rfl
      clear ho hh
      go_enter Try.func61, Try.ntmps61
      go_wp2
      go_ret2
      exact ⟨by rw [← HN.out]; rfl, rfl⟩
    · have HN : Hid (digitsL (lst s) = o) := by
        show _ = o
        rw [← ho, plainL, if_neg]
        rintro ⟨-, h2⟩
        rw [hh] at h2
        exact h48 ((byte_eq hc 48 (by omega)).1 (Option.some.inj h2))
      clear ho hh
      have hq : (c == 48) = false := by simp [h48]
      clear h48
      go_enter Try.func61, Try.ntmps61
      go_wp2_with (go_at_call 64; refine (digits_any s _ HS.out o HN.out).mono ?_; rintro e w ⟨rfl, rfl⟩; unfold u64R)
      go_ret2
      exact ⟨rfl, rfl⟩
  · have HN : Hid (digitsL (lst s) = o) := by
      show _ = o
      rw [← ho, plainL, if_neg]
      rintro ⟨h1, -⟩
      exact hlt (by simpa using h1)
    clear ho
    go_enter Try.func61, Try.ntmps61
    go_wp2_with (go_at_call 64; refine (digits_any s _ HS.out o HN.out).mono ?_; rintro e w ⟨rfl, rfl⟩; unfold u64R)
    go_ret2
    exact ⟨rfl, rfl⟩

theorem below_any (s : ByteArray) (w : World) (hs : s.size ≤ maxLen) (o : Option Int) (ho : belowL (lst s) = o) :
    Calls Try.prog 60 #[.string s] w fun e w' => e = .returned (i64R o) ∧ w' = w := by
  unfold belowL at ho
  cases hp : plainL (lst s) with
  | none =>
    rw [hp] at ho
    have HN : Hid (none = o) := ho
    clear ho
    go_enter Try.func60, Try.ntmps60
    go_wp2_with (go_at_call 61; refine (plain_any s _ hs none hp).mono ?_; rintro e w ⟨rfl, rfl⟩; dsimp only [u64R, Option.getD_none, Option.isSome_none])
    go_ret2
    exact ⟨by rw [← HN.out]; rfl, rfl⟩
  | some n =>
    rw [hp] at ho
    have hn := plainL_lt hp
    have ho' : (if n = 0 ∨ 9223372036854775808 < n then none else some (-(n : Int))) = o := ho
    clear ho
    by_cases h : n = 0 ∨ 9223372036854775808 < n
    · rw [if_pos h] at ho'
      have HN : Hid (none = o) := ho'
      clear ho'
      have hh : (n : Int) = 0 ∨ (9223372036854775808 : Int) < n := by omega
      clear h
      rcases hh with h | h
      · go_enter Try.func60, Try.ntmps60
        go_wp2_with (go_at_call 61; refine (plain_any s _ hs (some n) hp).mono ?_; rintro e w ⟨rfl, rfl⟩; dsimp only [u64R, Option.getD_some, Option.isSome_some])
        go_ret2
        exact ⟨by rw [← HN.out]; rfl, rfl⟩
      · have hq : ((n : Int) == 0) = false := by simp; omega
        go_enter Try.func60, Try.ntmps60
        go_wp2_with (go_at_call 61; refine (plain_any s _ hs (some n) hp).mono ?_; rintro e w ⟨rfl, rfl⟩; dsimp only [u64R, Option.getD_some, Option.isSome_some])
        go_ret2
        exact ⟨by rw [← HN.out]; rfl, rfl⟩
    · rw [if_neg h] at ho'
      have HN : Hid (some (-(n : Int)) = o) := ho'
      clear ho'
      have h1 : 0 < (n : Int) := by omega
      have h2 : ¬ (9223372036854775808 : Int) < n := by omega
      have hq : ((n : Int) == 0) = false := by simp; omega
      clear h
      have HW : Hid (wrap64 (-(wrap64 (n : Int))) = -(n : Int)) := by
        show _ = _
        unfold wrap64; omega
      go_enter Try.func60, Try.ntmps60
      go_wp2_with (go_at_call 61; refine (plain_any s _ hs (some n) hp).mono ?_; rintro e w ⟨rfl, rfl⟩; dsimp only [u64R, Option.getD_some, Option.isSome_some])
      go_ret2
      exact ⟨by rw [← HN.out, HW.out]; rfl, rfl⟩

theorem Parse_minus (s : ByteArray) (w : World) (hs : s.size ≤ maxLen) (h0 : 0 < s.size) (hc : ((s[0]'h0).toNat : Int) = 45) (o : Option Int) (ho : belowL (lst s).tail = o) :
    Calls Try.prog 54 #[.string s] w fun e w' => e = .returned (i64R o) ∧ w' = w := by
  have hx : (s.extract 1 s.size).size ≤ maxLen := by
    have : (s.extract 1 s.size).size ≤ s.size := by simp
    omega
  have HN : Hid (belowL (lst (s.extract 1 s.size)) = o) := by
    show _ = o
    rw [tail_at]; exact ho
  have HX : Hid ((s.extract 1 s.size).size ≤ maxLen) := hx
  clear hx ho
  unfold maxLen at hs
  go_enter Try.func54, Try.ntmps54
  go_wp2_with (go_at_call 60; refine (below_any _ _ HX.out o HN.out).mono ?_; rintro e w ⟨rfl, rfl⟩; unfold i64R)
  go_ret2
  exact ⟨rfl, rfl⟩

/-- What Parse is where no minus stands ahead. -/
def upL (l : List UInt8) : Option Int := (plainL l).bind fun n => if 9223372036854775807 < n then none else some (n : Int)

/-- What Parse does behind its first test. -/
theorem Parse_plain (s : ByteArray) (w : World) (hs : s.size ≤ maxLen) (hc : s.size = 0 ∨ ∃ (h0 : 0 < s.size) (c : Int), ((s[0]'h0).toNat : Int) = c ∧ (c == 45) = false) (o : Option Int) (ho : upL (lst s) = o) :
    Calls Try.prog 54 #[.string s] w fun e w' => e = .returned (i64R o) ∧ w' = w := by
  have HS : Hid (s.size ≤ maxLen) := hs
  unfold maxLen at hs
  unfold upL at ho
  have main : ∀ (p : Option Nat), plainL (lst s) = p → (p = none ∧ none = o ∨ ∃ n : Nat, p = some n ∧ n < 18446744073709551616 ∧ ((9223372036854775807 : Int) < n ∧ none = o ∨ ¬ (9223372036854775807 : Int) < n ∧ some (n : Int) = o)) := by
    intro p hp
    cases p with
    | none => rw [hp] at ho; exact .inl ⟨rfl, ho⟩
    | some n =>
      rw [hp] at ho
      have ho' : (if 9223372036854775807 < n then none else some (n : Int)) = o := ho
      refine .inr ⟨n, rfl, plainL_lt hp, ?_⟩
      split at ho'
      · exact .inl ⟨by omega, ho'⟩
      · exact .inr ⟨by omega, ho'⟩
  obtain ⟨p, hp⟩ : ∃ p, plainL (lst s) = p := ⟨_, rfl⟩
  have HP : Hid (plainL (lst s) = p) := hp
  have hm := main p hp
  clear main ho hp
  rcases hc with hc | ⟨h0, c, hc, hq⟩
  · rcases hm with ⟨rfl, hn⟩ | ⟨n, rfl, hlt, ⟨h, hn⟩ | ⟨h, hn⟩⟩
    · have HN : Hid (none = o) := hn
      clear hn
      go_enter Try.func54, Try.ntmps54
      go_wp2_with (go_at_call 61; refine (plain_any s _ HS.out none HP.out).mono ?_; rintro e w ⟨rfl, rfl⟩; dsimp only [u64R, Option.getD_none, Option.isSome_none])
      go_ret2
      exact ⟨by rw [← HN.out]; rfl, rfl⟩
    · have HN : Hid (none = o) := hn
      clear hn
      go_enter Try.func54, Try.ntmps54
      go_wp2_with (go_at_call 61; refine (plain_any s _ HS.out (some n) HP.out).mono ?_; rintro e w ⟨rfl, rfl⟩; dsimp only [u64R, Option.getD_some, Option.isSome_some])
      go_ret2
      exact ⟨by rw [← HN.out]; rfl, rfl⟩
    · have HN : Hid (some (n : Int) = o) := hn
      clear hn
      go_enter Try.func54, Try.ntmps54
      go_wp2_with (go_at_call 61; refine (plain_any s _ HS.out (some n) HP.out).mono ?_; rintro e w ⟨rfl, rfl⟩; dsimp only [u64R, Option.getD_some, Option.isSome_some])
      go_ret2
      exact ⟨by rw [← HN.out]; rfl, rfl⟩
  · rcases hm with ⟨rfl, hn⟩ | ⟨n, rfl, hlt, ⟨h, hn⟩ | ⟨h, hn⟩⟩
    · have HN : Hid (none = o) := hn
      clear hn
      go_enter Try.func54, Try.ntmps54
      go_wp2_with (go_at_call 61; refine (plain_any s _ HS.out none HP.out).mono ?_; rintro e w ⟨rfl, rfl⟩; dsimp only [u64R, Option.getD_none, Option.isSome_none])
      go_ret2
      exact ⟨by rw [← HN.out]; rfl, rfl⟩
    · have HN : Hid (none = o) := hn
      clear hn
      go_enter Try.func54, Try.ntmps54
      go_wp2_with (go_at_call 61; refine (plain_any s _ HS.out (some n) HP.out).mono ?_; rintro e w ⟨rfl, rfl⟩; dsimp only [u64R, Option.getD_some, Option.isSome_some])
      go_ret2
      exact ⟨by rw [← HN.out]; rfl, rfl⟩
    · have HN : Hid (some (n : Int) = o) := hn
      clear hn
      go_enter Try.func54, Try.ntmps54
      go_wp2_with (go_at_call 61; refine (plain_any s _ HS.out (some n) HP.out).mono ?_; rintro e w ⟨rfl, rfl⟩; dsimp only [u64R, Option.getD_some, Option.isSome_some])
      go_ret2
      exact ⟨by rw [← HN.out]; rfl, rfl⟩

theorem Parse_any (s : ByteArray) (w : World) (hs : s.size ≤ maxLen) (o : Option Int) (ho : parseL (lst s) = o) :
    Calls Try.prog 54 #[.string s] w fun e w' => e = .returned (i64R o) ∧ w' = w := by
  unfold parseL at ho
  by_cases h0 : 0 < s.size
  · have hh := head_at s h0
    by_cases hc : ((s[0]'h0).toNat : Int) = 45
    · rw [if_pos (by rw [hh, (byte_eq hc 45 (by omega)).2 rfl]; rfl)] at ho
      exact Parse_minus s w hs h0 hc o ho
    · rw [if_neg (by
        intro h2
        rw [hh] at h2
        exact hc ((byte_eq rfl 45 (by omega)).1 (Option.some.inj h2)))] at ho
      exact Parse_plain s w hs (.inr ⟨h0, _, rfl, by simpa using hc⟩) o ho
  · have hz : s.size = 0 := by omega
    have hl : lst s = [] := by
      have : (lst s).length = 0 := by rw [Array.length_toList]; exact hz
      exact List.length_eq_zero_iff.1 this
    rw [if_neg (by rw [hl]; simp)] at ho
    exact Parse_plain s w hs (.inl hz) o ho
end Go.Proofs.Ytkoepgjdjbmknaa
