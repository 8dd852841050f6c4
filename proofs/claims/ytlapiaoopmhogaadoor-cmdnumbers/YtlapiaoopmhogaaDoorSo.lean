/-
  Sorting names, over lists: the ways that are gone for the names of all commands.
-/
import Derived.Test.YtlapiaoopmhogaaDoorCa
namespace Go.Proofs.YtlapiaoopmhogaaDoor

/-- The order of texts. -/
def ltB (a b : ByteArray) : Bool := Op.bytesLess a.toList b.toList
/-- The same, quick to reckon. -/
def ltD (a b : ByteArray) : Bool := Op.bytesLess a.data.toList b.data.toList
theorem ltB_eq (a b : ByteArray) : ltB a b = ltD a b := by rw [ltB, ltD, ByteArray.toList_eq, ByteArray.toList_eq]
def atS (l : List ByteArray) (i : Nat) : ByteArray := l.getD i ByteArray.empty
def lsI (l : List ByteArray) (i j : Nat) : Bool := ltD (atS l i) (atS l j)
def swp (l : List ByteArray) (i j : Nat) : List ByteArray := (l.set i (atS l j)).set j (atS l i)
theorem swp_len (l : List ByteArray) (i j : Nat) : (swp l i j).length = l.length := by simp [swp]
/-- The j-th comes down, at most to a. -/
def insIn (a : Nat) : Nat → List ByteArray → List ByteArray
  | 0, l => l
  | j + 1, l => if a < j + 1 ∧ lsI l (j + 1) j = true then insIn a j (swp l (j + 1) j) else l
theorem insIn_len (a : Nat) : ∀ (j : Nat) (l : List ByteArray), (insIn a j l).length = l.length
  | 0, _ => rfl
  | j + 1, l => by
    unfold insIn
    split
    · rw [insIn_len a j, swp_len]
    · rfl
/-- k more of them, from the i-th on. -/
def insOut (a : Nat) : Nat → Nat → List ByteArray → List ByteArray
  | 0, _, l => l
  | k + 1, i, l => insOut a k (i + 1) (insIn a i l)
theorem insOut_len (a : Nat) : ∀ (k i : Nat) (l : List ByteArray), (insOut a k i l).length = l.length
  | 0, _, _ => rfl
  | k + 1, i, l => by rw [insOut, insOut_len a k, insIn_len]
/-- Two places, the lesser text's first; how many swaps. -/
def ord2 (l : List ByteArray) (a b s : Nat) : Nat × Nat × Nat := if lsI l b a = true then (b, a, s + 1) else (a, b, s)
def medn (l : List ByteArray) (a b c s : Nat) : Nat × Nat :=
  ((ord2 l (ord2 l a b s).1 (ord2 l (ord2 l a b s).2.1 c (ord2 l a b s).2.2).1 (ord2 l (ord2 l a b s).2.1 c (ord2 l a b s).2.2).2.2).2.1,
   (ord2 l (ord2 l a b s).1 (ord2 l (ord2 l a b s).2.1 c (ord2 l a b s).2.2).1 (ord2 l (ord2 l a b s).2.1 c (ord2 l a b s).2.2).2.2).2.2)
def madj (l : List ByteArray) (a s : Nat) : Nat × Nat := medn l (a - 1) a (a + 1) s
/-- Of n from a on: the pivot, and how many swaps. -/
def chP (l : List ByteArray) (a n : Nat) : Nat × Nat :=
  if n < 50 then medn l (a + n / 4) (a + n / 4 * 2) (a + n / 4 * 3) 0
  else
    medn l (madj l (a + n / 4) 0).1 (madj l (a + n / 4 * 2) (madj l (a + n / 4) 0).2).1
      (madj l (a + n / 4 * 3) (madj l (a + n / 4 * 2) (madj l (a + n / 4) 0).2).2).1 (madj l (a + n / 4 * 3) (madj l (a + n / 4 * 2) (madj l (a + n / 4) 0).2).2).2
/-- From i up to j (k of them), while less than the a-th. -/
def scanI (l : List ByteArray) (a : Nat) : Nat → Nat → Nat
  | 0, i => i
  | k + 1, i => if lsI l i a = true then scanI l a k (i + 1) else i
/-- From the end of those k down: how many are left. -/
def scanJ (l : List ByteArray) (a i : Nat) : Nat → Nat
  | 0 => 0
  | k + 1 => if lsI l (i + k) a = true then k + 1 else scanJ l a i k
/-- Of the k from i on: those less than the a-th ahead of the others. How the row stands, where the last of the less ones stands, whether they stood so. -/
def part2 (a : Nat) : Nat → Nat → Nat → List ByteArray → Bool → Option (List ByteArray × Nat × Bool)
  | 0, _, _, _, _ => none
  | fuel + 1, i, k, l, b =>
    if scanJ l a (scanI l a k i) (i + k - scanI l a k i) = 0 then some (swp l (scanI l a k i - 1) a, scanI l a k i - 1, b)
    else part2 a fuel (scanI l a k i + 1) (scanJ l a (scanI l a k i) (i + k - scanI l a k i) - 2) (swp l (scanI l a k i) (scanI l a k i + scanJ l a (scanI l a k i) (i + k - scanI l a k i) - 1)) false
def part (l : List ByteArray) (a n p : Nat) : Option (List ByteArray × Nat × Bool) := part2 a 100 (a + 1) (n - 1) (swp l a p) true
/-- The whole, from a to b: nothing where another way is wanted. -/
def pdq : Nat → List ByteArray → Nat → Nat → Nat → Bool → Bool → Option (List ByteArray)
  | 0, _, _, _, _, _, _ => none
  | f + 1, l, a, b, lim, wb, wp =>
    if b - a ≤ 12 then some (insOut a (b - a - 1) (a + 1) l)
    else if lim = 0 ∨ wb = false then none
    else if (chP l a (b - a)).2 = 12 ∨ (wp = true ∧ (chP l a (b - a)).2 = 0) then none
    else if 0 < a ∧ lsI l (a - 1) (chP l a (b - a)).1 = false then none
    else match part l a (b - a) (chP l a (b - a)).1 with
      | none => none
      | some (l1, mid, al) =>
        if mid - a < b - mid then
          match pdq f l1 a mid lim true true with
          | none => none
          | some l2 => pdq f l2 (mid + 1) b lim (decide ((b - a) / 8 ≤ mid - a)) al
        else
          match pdq f l1 (mid + 1) b lim true true with
          | none => none
          | some l2 => pdq f l2 a mid lim (decide ((b - a) / 8 ≤ b - mid)) al
def srted : Bool := match pdq 30 (progs.map Cm.nm) 0 81 7 true true with
  | none => false
  | some l => decide (l.map (·.data.toList) = refs.map (·.nm.data.toList))
theorem srted_yes : srted = true := by kernel_rfl
end Go.Proofs.YtlapiaoopmhogaaDoor
