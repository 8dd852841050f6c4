/-
  The law PackFinds.
-/
import Derived.Test.YtemiajjjhhofaabKnown
namespace Go.Proofs.Ytemiajjjhhofaab
open Go.RowKit Go.PlainAid

theorem Short.fit {ls : List ByteArray} {n : Nat} {m : Int} (h : Short ls n m) (hm : m ≤ 4096) : Fit ls := fun s hs => by have := h.2 s hs; omega
theorem Short.pack {ls : List ByteArray} {n : Nat} {m : Int} (h : Short ls n m) (k q : Nat) (hk : m ≤ k) (hq : n * (k + 11) ≤ q) : (Ytemiajjjhhofaab.pack ls).length ≤ q := by
  have h1 := pack_len ls k (fun s hs => by have := h.2 s hs; omega)
  have h2 : ls.length * (k + 11) ≤ n * (k + 11) := Nat.mul_le_mul_right _ h.1
  omega

/-- p := pack.New(), p.Insert(0, l...): what stands behind it. -/
theorem ins_all (ts : List ByteArray) : ([] : List ByteArray).take 0 ++ (ts ++ [].drop 0) = ts := by simp

end Go.Proofs.Ytemiajjjhhofaab
