/-
  The program's hash (Of, Seven) and the document's own Of, over every text and number.
-/
import Derived.Test.YtejnmikbbnckeaaProg
import Derived.WalkKit
import Derived.WalkSpells
import Derived.PlainAid
import Derived.Laws.BitsAllLaws
import Derived.Laws.IdiomStrings
import Derived.Deep.LoopGhost
import Derived.Deep.Cut
import Derived.Lib.IndexBytes
import Derived.Elder7
namespace Go.Proofs.Ytejnmikbbnckeaa
open Go.RowKit Go.PlainAid

/-- A text's bytes. -/
abbrev lst (s : ByteArray) : List UInt8 := s.data.toList
theorem drop_at (s : ByteArray) (k : Nat) (h : k < s.size) : (lst s).drop k = s[k] :: (lst s).drop (k + 1) := by
  rw [List.drop_eq_getElem_cons (by simpa using h)]
  rfl

/-- A hash, one byte on. -/
def stp (h : Nat) (b : UInt8) : Nat := (h ^^^ b.toNat) * 1099511628211 % 18446744073709551616
/-- The middle of a hash's end. -/
def mid (h : Nat) : Nat := (h ^^^ h / 4294967296) * 11400714819323198485 % 18446744073709551616
/-- A hash's end. -/
def fin (h : Nat) : Nat := mid h ^^^ mid h / 536870912
/-- The hash of a row of bytes by a seed. -/
def ofL (x : Nat) (l : List UInt8) : Nat := fin (l.foldl stp (14695981039346656037 ^^^ x))
/-- The lowest bits of a number, at most sixteen. -/
def lowN (h : Nat) (b : Int) : Nat := h % 2 ^ (min b.toNat 16)

theorem stp_lt (h : Nat) (b : UInt8) : stp h b < 18446744073709551616 := Nat.mod_lt _ (by decide)
theorem mid_lt (h : Nat) : mid h < 18446744073709551616 := Nat.mod_lt _ (by decide)
theorem xor_lt {a b : Nat} (ha : a < 18446744073709551616) (hb : b < 18446744073709551616) : a ^^^ b < 18446744073709551616 := Nat.xor_lt_two_pow (n := 64) ha hb
theorem fin_lt (h : Nat) : fin h < 18446744073709551616 := xor_lt (mid_lt h) (by have := mid_lt h; omega)
theorem ofL_lt (x : Nat) (l : List UInt8) : ofL x l < 18446744073709551616 := fin_lt _

theorem wrap_mul (a b : Nat) : IntKind.u64.wrap ((a : Int) * (b : Int)) = ((a * b % 18446744073709551616 : Nat) : Int) := by
  simp [IntKind.wrap, IntKind.signed, IntKind.bits]

theorem Seven_any (h : Int) (w : World) (h0 : 0 ≤ h) (h1 : h < 18446744073709551616) :
    Calls Try.prog 80 #[.int .u64 h] w fun e w' => e = .returned (.int .u8 (h / 144115188075855872)) ∧ w' = w := by
  go_enter Try.func80, Try.ntmps80
  go_wp2
  go_ret
  exact ⟨rfl, rfl⟩

theorem Of_any (x : Nat) (s : ByteArray) (w : World) (hs : s.size ≤ maxLen) (hx : x < 18446744073709551616) :
    Calls Try.prog 38 #[.int .u64 x, .string s] w fun e w' => e = .returned (.int .u64 (ofL x (lst s) : Nat)) ∧ w' = w := by
  unfold maxLen at hs
  have hb := u64_xor_nat 14695981039346656037 x (by decide) hx
  replace hb : bits .xor .u64 14695981039346656037 (x : Int) = ((14695981039346656037 ^^^ x : Nat) : Int) := hb
  have hlt : 14695981039346656037 ^^^ x < 18446744073709551616 := xor_lt (by decide) hx
  obtain ⟨o, HO⟩ : ∃ o, Hid ((lst s).foldl stp (14695981039346656037 ^^^ x) = o) := ⟨_, rfl⟩
  have HF : Hid (ofL x (lst s) = fin o) := by show _ = _; rw [← HO.out]; rfl
  generalize 14695981039346656037 ^^^ x = h0 at hb hlt HO
  go_enter Try.func38, Try.ntmps38
  go_wp2
  go_loopg [5, 11] s.size (fun g hv i wr => w = wr ∧ ∃ k n : Nat, k + g = s.size ∧ i = .int .i64 k ∧ hv = .int .u64 n ∧ n < 18446744073709551616 ∧ Hid (((lst s).drop k).foldl stp n = o))
  case atStart => exact ⟨rfl, 0, h0, by omega, rfl, rfl, hlt, HO⟩
  case round =>
    obtain ⟨rfl, k, n, hk, rfl, rfl, hn, H⟩ := hrel
    have HK : Hid (k + gk = s.size) := hk
    clear hk HO hb hlt
    by_cases hlt : k < s.size
    · have HD : Hid ((lst s).drop k = s[k] :: (lst s).drop (k + 1)) := drop_at s k hlt
      have HN : Hid (((lst s).drop (k + 1)).foldl stp (stp n s[k]) = o) := by
        have := H.out
        rw [HD.out] at this
        exact this
      have hc : s[k].toNat < 18446744073709551616 := by have := s[k].toNat_lt; omega
      have hxr := u64_xor_nat n s[k].toNat hn hc
      have hX := xor_lt hn hc
      have hq : IntKind.u64.wrap (((n ^^^ s[k].toNat : Nat) : Int) * 1099511628211) = (stp n s[k] : Nat) := wrap_mul _ 1099511628211
      have hl := stp_lt n s[k]
      generalize stp n s[k] = q at HN hq hl
      generalize n ^^^ s[k].toNat = X at hxr hX hq
      go_wp2
      go_roundg (gk - 1)
      case measure => have := HK.out; omega
      case rel => exact ⟨rfl, k + 1, q, by have := HK.out; omega, by go_num, rfl, hl, HN⟩
    · have HE : Hid (n = o) := by
        have := H.out
        rw [List.drop_eq_nil_of_le (by simp; omega)] at this
        exact this
      have HR : Hid (fin n = mid n ^^^ mid n / 536870912) := rfl
      have hx1 : bits .xor .u64 (n : Int) ((n : Int) / 4294967296) = ((n ^^^ n / 4294967296 : Nat) : Int) := u64_xor_nat n (n / 4294967296) hn (by omega)
      have hX := xor_lt hn (b := n / 4294967296) (by omega)
      have hm : IntKind.u64.wrap (((n ^^^ n / 4294967296 : Nat) : Int) * 11400714819323198485) = (mid n : Nat) := wrap_mul _ 11400714819323198485
      have hl := mid_lt n
      generalize mid n = m at hm hl HR
      generalize n ^^^ n / 4294967296 = X at hx1 hX hm
      have hx2 : bits .xor .u64 (m : Int) ((m : Int) / 536870912) = ((m ^^^ m / 536870912 : Nat) : Int) := u64_xor_nat m (m / 536870912) hl (by omega)
      generalize m ^^^ m / 536870912 = z at hx2 HR
      go_wp2
      go_ret
      exact ⟨by rw [HF.out, ← HE.out, HR.out]; rfl, rfl⟩

theorem refOf_any (x : Nat) (s : ByteArray) (w : World) (hs : s.size ≤ maxLen) (hx : x < 18446744073709551616) :
    Calls Try.prog 22 #[.int .u64 x, .string s] w fun e w' => e = .returned (.int .u64 (ofL x (lst s) : Nat)) ∧ w' = w := by
  unfold maxLen at hs
  have hb := u64_xor_nat 14695981039346656037 x (by decide) hx
  replace hb : bits .xor .u64 14695981039346656037 (x : Int) = ((14695981039346656037 ^^^ x : Nat) : Int) := hb
  have hlt : 14695981039346656037 ^^^ x < 18446744073709551616 := xor_lt (by decide) hx
  obtain ⟨o, HO⟩ : ∃ o, Hid ((lst s).foldl stp (14695981039346656037 ^^^ x) = o) := ⟨_, rfl⟩
  have HF : Hid (ofL x (lst s) = fin o) := by show _ = _; rw [← HO.out]; rfl
  generalize 14695981039346656037 ^^^ x = h0 at hb hlt HO
  go_enter Try.func22, Try.ntmps22
  go_wp2
  go_loopg [5, 6] s.size (fun g hv i wr => w = wr ∧ ∃ k n : Nat, k + g = s.size ∧ i = .int .i64 k ∧ hv = .int .u64 n ∧ n < 18446744073709551616 ∧ Hid (((lst s).drop k).foldl stp n = o))
  case atStart => exact ⟨rfl, 0, h0, by omega, rfl, rfl, hlt, HO⟩
  case round =>
    obtain ⟨rfl, k, n, hk, rfl, rfl, hn, H⟩ := hrel
    have HK : Hid (k + gk = s.size) := hk
    clear hk HO hb hlt
    by_cases hlt : k < s.size
    · have HD : Hid ((lst s).drop k = s[k] :: (lst s).drop (k + 1)) := drop_at s k hlt
      have HN : Hid (((lst s).drop (k + 1)).foldl stp (stp n s[k]) = o) := by
        have := H.out
        rw [HD.out] at this
        exact this
      have hc : s[k].toNat < 18446744073709551616 := by have := s[k].toNat_lt; omega
      have hxr := u64_xor_nat n s[k].toNat hn hc
      have hX := xor_lt hn hc
      have hq : IntKind.u64.wrap (((n ^^^ s[k].toNat : Nat) : Int) * 1099511628211) = (stp n s[k] : Nat) := wrap_mul _ 1099511628211
      have hl := stp_lt n s[k]
      generalize stp n s[k] = q at HN hq hl
      generalize n ^^^ s[k].toNat = X at hxr hX hq
      go_wp2
      go_roundg (gk - 1)
      case measure => have := HK.out; omega
      case rel => exact ⟨rfl, k + 1, q, by have := HK.out; omega, by go_num, rfl, hl, HN⟩
    · have HE : Hid (n = o) := by
        have := H.out
        rw [List.drop_eq_nil_of_le (by simp; omega)] at this
        exact this
      have HR : Hid (fin n = mid n ^^^ mid n / 536870912) := rfl
      have hx1 : bits .xor .u64 (n : Int) ((n : Int) / 4294967296) = ((n ^^^ n / 4294967296 : Nat) : Int) := u64_xor_nat n (n / 4294967296) hn (by omega)
      have hX := xor_lt hn (b := n / 4294967296) (by omega)
      have hm : IntKind.u64.wrap (((n ^^^ n / 4294967296 : Nat) : Int) * 11400714819323198485) = (mid n : Nat) := wrap_mul _ 11400714819323198485
      have hl := mid_lt n
      generalize mid n = m at hm hl HR
      generalize n ^^^ n / 4294967296 = X at hx1 hX hm
      have hx2 : bits .xor .u64 (m : Int) ((m : Int) / 536870912) = ((m ^^^ m / 536870912 : Nat) : Int) := u64_xor_nat m (m / 536870912) hl (by omega)
      generalize m ^^^ m / 536870912 = z at hx2 HR
      go_wp2
      go_ret
      exact ⟨by rw [HF.out, ← HE.out, HR.out]; rfl, rfl⟩

end Go.Proofs.Ytejnmikbbnckeaa
