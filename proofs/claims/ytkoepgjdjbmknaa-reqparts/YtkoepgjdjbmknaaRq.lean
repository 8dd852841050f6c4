/-
  Requests as the document has them, over rows of bytes; pure.
-/
import Derived.Test.YtkoepgjdjbmknaaDec
namespace Go.Proofs.Ytkoepgjdjbmknaa

/-- Read: what, and what is left; not whole yet; it can't be one. -/
abbrev Rs (α : Type) := Option (Option (α × List UInt8))
abbrev Rs.yes {α : Type} (x : α) (r : List UInt8) : Rs α := some (some (x, r))
abbrev Rs.part {α : Type} : Rs α := none
abbrev Rs.wrong {α : Type} : Rs α := some none
theorem Rs.elim {α : Type} {motive : Rs α → Prop} (part : motive .part) (wrong : motive .wrong) (yes : ∀ x r, motive (.yes x r)) (t : Rs α) : motive t := by
  match t with
  | none => exact part
  | some none => exact wrong
  | some (some (x, r)) => exact yes x r

/-- Where 13 10 stands first. -/
def crlf : List UInt8 → Option Nat
  | [] => none
  | b :: r => if b = 13 ∧ r.head? = some 10 then some 0 else (crlf r).map (· + 1)
/-- Where 10 stands first. -/
def lf : List UInt8 → Option Nat
  | [] => none
  | b :: r => if b = 10 then some 0 else (lf r).map (· + 1)

theorem crlf_some {l : List UInt8} {i : Nat} (h : crlf l = some i) : i + 2 ≤ l.length ∧ l[i]? = some 13 ∧ l[i + 1]? = some 10 := by
  induction l generalizing i with
  | nil => cases h
  | cons b r ih =>
    rw [crlf] at h
    split at h
    · rename_i hc
      cases h
      cases r with
      | nil => cases hc.2
      | cons c r => exact ⟨by simp, by rw [hc.1]; rfl, by simpa using hc.2⟩
    · cases hr : crlf r with
      | none => rw [hr] at h; cases h
      | some j =>
        rw [hr] at h
        cases h
        obtain ⟨h1, h2, h3⟩ := ih hr
        exact ⟨by simp; omega, by simpa using h2, by simpa using h3⟩
theorem crlf_min {l : List UInt8} {i : Nat} (h : crlf l = some i) (j : Nat) (hj : j < i) : ¬ (l[j]? = some 13 ∧ l[j + 1]? = some 10) := by
  induction l generalizing i j with
  | nil => cases h
  | cons b r ih =>
    rw [crlf] at h
    split at h
    · cases h; omega
    · rename_i hc
      cases hr : crlf r with
      | none => rw [hr] at h; cases h
      | some k =>
        rw [hr] at h
        cases h
        cases j with
        | zero =>
          rintro ⟨h1, h2⟩
          exact hc ⟨by simpa using h1, by rw [List.head?_eq_getElem?]; simpa using h2⟩
        | succ j =>
          have := ih hr j (Nat.lt_of_succ_lt_succ hj)
          simpa using this
theorem crlf_none {l : List UInt8} (h : crlf l = none) (j : Nat) : ¬ (l[j]? = some 13 ∧ l[j + 1]? = some 10) := by
  induction l generalizing j with
  | nil => simp
  | cons b r ih =>
    rw [crlf] at h
    split at h
    · cases h
    · rename_i hc
      cases hr : crlf r with
      | some k => rw [hr] at h; cases h
      | none =>
        cases j with
        | zero =>
          rintro ⟨h1, h2⟩
          exact hc ⟨by simpa using h1, by rw [List.head?_eq_getElem?]; simpa using h2⟩
        | succ j =>
          have := ih hr j
          simpa using this
theorem crlf_eq {l : List UInt8} {i : Nat} (h1 : l[i]? = some 13) (h2 : l[i + 1]? = some 10) (h : ∀ j, j < i → ¬ (l[j]? = some 13 ∧ l[j + 1]? = some 10)) : crlf l = some i := by
  cases hc : crlf l with
  | none => exact absurd ⟨h1, h2⟩ (crlf_none hc i)
  | some k =>
    obtain ⟨-, k1, k2⟩ := crlf_some hc
    rcases Nat.lt_trichotomy k i with hk | hk | hk
    · exact absurd ⟨k1, k2⟩ (h k hk)
    · rw [hk]
    · exact absurd ⟨h1, h2⟩ (crlf_min hc i hk)
theorem crlf_eq_none {l : List UInt8} (h : ∀ j : Nat, ¬ (l[j]? = some 13 ∧ l[j + 1]? = some 10)) : crlf l = none := by
  cases hc : crlf l with
  | none => rfl
  | some k => obtain ⟨-, k1, k2⟩ := crlf_some hc; exact absurd ⟨k1, k2⟩ (h k)
theorem lf_some {l : List UInt8} {i : Nat} (h : lf l = some i) : i < l.length ∧ l[i]? = some 10 := by
  induction l generalizing i with
  | nil => cases h
  | cons b r ih =>
    rw [lf] at h
    split at h
    · rename_i hc
      cases h
      exact ⟨by simp, by rw [hc]; rfl⟩
    · cases hr : lf r with
      | none => rw [hr] at h; cases h
      | some j =>
        rw [hr] at h
        cases h
        obtain ⟨h1, h2⟩ := ih hr
        exact ⟨by simp; omega, by simpa using h2⟩
theorem lf_min {l : List UInt8} {i : Nat} (h : lf l = some i) (j : Nat) (hj : j < i) : l[j]? ≠ some 10 := by
  induction l generalizing i j with
  | nil => cases h
  | cons b r ih =>
    rw [lf] at h
    split at h
    · cases h; omega
    · rename_i hc
      cases hr : lf r with
      | none => rw [hr] at h; cases h
      | some k =>
        rw [hr] at h
        cases h
        cases j with
        | zero => intro h1; exact hc (by simpa using h1)
        | succ j => have := ih hr j (Nat.lt_of_succ_lt_succ hj); simpa using this
theorem lf_none {l : List UInt8} (h : lf l = none) (j : Nat) : l[j]? ≠ some 10 := by
  induction l generalizing j with
  | nil => simp
  | cons b r ih =>
    rw [lf] at h
    split at h
    · cases h
    · rename_i hc
      cases hr : lf r with
      | some k => rw [hr] at h; cases h
      | none =>
        cases j with
        | zero => intro h1; exact hc (by simpa using h1)
        | succ j => have := ih hr j; simpa using this
theorem lf_eq {l : List UInt8} {i : Nat} (h1 : l[i]? = some 10) (h : ∀ j, j < i → l[j]? ≠ some 10) : lf l = some i := by
  cases hc : lf l with
  | none => exact absurd h1 (lf_none hc i)
  | some k =>
    obtain ⟨-, k1⟩ := lf_some hc
    rcases Nat.lt_trichotomy k i with hk | hk | hk
    · exact absurd k1 (h k hk)
    · rw [hk]
    · exact absurd h1 (lf_min hc i hk)
theorem lf_eq_none {l : List UInt8} (h : ∀ j : Nat, l[j]? ≠ some 10) : lf l = none := by
  cases hc : lf l with
  | none => rfl
  | some k => obtain ⟨-, k1⟩ := lf_some hc; exact absurd k1 (h k)

/-- The line that a row begins with, at most m bytes long, by an end of k bytes that stands first at i. -/
def upR (i : Option Nat) (k m : Nat) (l : List UInt8) : Rs (List UInt8) :=
  match i with
  | some i => if m < i then .wrong else .yes (l.take i) (l.drop (i + k))
  | none => if m < l.length then .wrong else .part
/-- A number behind a sign. -/
def numR (sign : UInt8) (lo hi : Int) : List UInt8 → Rs Int
  | [] => .part
  | b :: r => if b = sign then
      match upR (crlf r) 2 32 r with
      | some (some (x, r2)) => match parseL x with
        | some n => if n < lo ∨ hi < n then .wrong else .yes n r2
        | none => .wrong
      | none => .part
      | some none => .wrong
    else .wrong
/-- A bulk. -/
def bulkR (l : List UInt8) : Rs (List UInt8) :=
  match numR 36 0 65536 l with
  | some (some (n, r)) => if r.length < n.toNat + 2 then .part else if (r.drop n.toNat).take 2 = [13, 10] then .yes (r.take n.toNat) (r.drop (n.toNat + 2)) else .wrong
  | none => .part
  | some none => .wrong
/-- So many bulks behind those that were read. -/
def manyR : Nat → List (List UInt8) → List UInt8 → Rs (List (List UInt8))
  | 0, acc, l => .yes acc l
  | k + 1, acc, l => match bulkR l with
    | some (some (x, r)) => manyR k (acc ++ [x]) r
    | none => .part
    | some none => .wrong
def bulksR (l : List UInt8) : Rs (List (List UInt8)) :=
  match numR 42 (-1) 256 l with
  | some (some (n, r)) => manyR n.toNat [] r
  | none => .part
  | some none => .wrong

def blk (b : UInt8) : Bool := b == 32 || b == 9 || b == 0
/-- What a backslash and a byte mean. -/
def mnt (b : UInt8) : UInt8 := if b = 110 then 10 else if b = 114 then 13 else if b = 116 then 9 else b
/-- What stands in quotes, behind what was read of it; what is left. -/
def quo (q : UInt8) : List UInt8 → List UInt8 → Option (List UInt8 × List UInt8)
  | _, [] => none
  | acc, [b] => if b = q then some (acc, []) else none
  | acc, b :: d :: r => if b = q then some (acc, d :: r) else if b = 92 ∧ (q = 34 ∨ d = q) then quo q (acc ++ [mnt d]) r else quo q (acc ++ [b]) (d :: r)
/-- A word, behind what was read of it. -/
def wrd : List UInt8 → List UInt8 → Option (List UInt8 × List UInt8)
  | acc, [] => some (acc, [])
  | acc, b :: r => if blk b then some (acc, b :: r) else if b = 34 ∨ b = 39 then
      match quo b [] r with
      | some (x, s) => if s.head?.all blk then some (acc ++ x, s) else none
      | none => none
    else wrd (acc ++ [b]) r
/-- Words, by fuel, behind those that were read. -/
def wds : Nat → List (List UInt8) → List UInt8 → Option (List (List UInt8))
  | 0, acc, _ => some acc
  | f + 1, acc, l => match l.dropWhile blk with
    | [] => some acc
    | b :: r => match wrd [] (b :: r) with
      | some (x, s) => wds f (acc ++ [x]) s
      | none => none
def wordsL (l : List UInt8) : Option (List (List UInt8)) :=
  match wds (l.length + 1) [] l with
  | some ws => if 256 < ws.length then none else some ws
  | none => none
/-- A line without the 13 at its end. -/
def cut13 (l : List UInt8) : List UInt8 := if l.getLast? = some 13 then l.dropLast else l
def inlR (l : List UInt8) : Rs (List (List UInt8)) :=
  match upR (lf l) 1 4096 l with
  | some (some (x, r)) => match wordsL (cut13 x) with
    | some ws => .yes ws r
    | none => .wrong
  | none => .part
  | some none => .wrong
/-- A request. -/
def reqR (l : List UInt8) : Rs (List (List UInt8)) :=
  match l with
  | [] => .part
  | b :: r => if b = 42 then bulksR (b :: r) else inlR (b :: r)
/-- Requests, by fuel, behind those that were read: they; what is left; is it wrong? -/
def allR : Nat → List (List (List UInt8)) → List UInt8 → List (List (List UInt8)) × List UInt8 × Bool
  | 0, acc, l => (acc, l, false)
  | f + 1, acc, l => match reqR l with
    | some (some ([], r)) => allR f acc r
    | some (some ((x :: xs), r)) => allR f (acc ++ [x :: xs]) r
    | none => (acc, l, false)
    | some none => (acc, l, true)
def allL (l : List UInt8) : List (List (List UInt8)) × List UInt8 × Bool := allR (l.length + 1) [] l
end Go.Proofs.Ytkoepgjdjbmknaa
