/-
  Rows of digits, read: fits, digits, plainDigits, parseBelow, Parse, Cursor.
-/
import Derived.Test.YtlapiaoopmhogaaDoorProg
import Derived.Test.YtlapiaoopmhogaaDoorDec
import Derived.WalkKit
import Derived.WalkSpells
import Derived.Laws.IdiomStrings
import Derived.Deep.LoopGhost
import Derived.Deep.Cut
import Derived.PlainAid
import Derived.Lib.IndexBytes
import Derived.Elder7
namespace Go.Proofs.YtlapiaoopmhogaaDoor
open Go.RowKit Go.PlainAid

/-- A text's bytes. -/
abbrev lst (s : ByteArray) : List UInt8 := s.data.toList
def u64R (o : Option Nat) : Value := .tuple #[.int .u64 (o.getD 0 : Nat), .bool o.isSome]
def i64R (o : Option Int) : Value := .tuple #[.int .i64 (o.getD 0), .bool o.isSome]

theorem drop_at (s : ByteArray) (k : Nat) (h : k < s.size) : (lst s).drop k = s[k] :: (lst s).drop (k + 1) := by
  rw [List.drop_eq_getElem_cons (by simpa using h)]; rfl

theorem rd_bad {l r : List UInt8} {b : UInt8} {n : Nat} {c : Int} (hl : l = b :: r) (hc : (b.toNat : Int) = c) (h : c < 48 ∨ 57 < c ∨ ¬ (n : Int) * 10 + (c - 48) < 18446744073709551616) : rd n l = none := by
  subst hl
  simp only [rd]
  rw [if_neg (by omega)]
theorem rd_good {l r : List UInt8} {b : UInt8} {n : Nat} {c : Int} (hl : l = b :: r) (hc : (b.toNat : Int) = c) (h1 : 48 ≤ c) (h2 : c ≤ 57) (h3 : (n : Int) * 10 + (c - 48) < 18446744073709551616) : rd n l = rd ((n : Int) * 10 + (c - 48)).toNat r := by
  subst hl
  simp only [rd]
  rw [if_pos (by omega)]
  congr 1; omega

theorem head_at (s : ByteArray) (h : 0 < s.size) : (lst s).head? = some (s[0]'h) := by
  have := drop_at s 0 h
  rw [List.drop_zero] at this
  rw [this]; rfl
theorem tail_at (s : ByteArray) : lst (s.extract 1 s.size) = (lst s).tail := by
  unfold lst; rw [Lib.extract_to_end, List.drop_one]
theorem byte_eq {b : UInt8} {c : Int} (h : (b.toNat : Int) = c) (k : Nat) (hk : k < 256) : b = UInt8.ofNat k ↔ c = k := by
  constructor
  · rintro rfl
    rw [UInt8.toNat_ofNat'] at h; omega
  · intro e
    have : b.toNat = k := by omega
    rw [← this]; simp

/-- What Parse is where no minus stands ahead. -/
def upL (l : List UInt8) : Option Int := (plainL l).bind fun n => if 9223372036854775807 < n then none else some (n : Int)

end Go.Proofs.YtlapiaoopmhogaaDoor
