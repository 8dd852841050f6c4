/-
  span, drop, dropLeft, dropRight, Trim, PopLeft, PopRight.
-/
import Derived.Test.YtemiajjjhhofaacQpush
namespace Go.Proofs.Ytemiajjjhhofaac
open Go.RowKit Go.PlainAid

def fs (n : Nat) (i : Int) : Int := if i < 0 then i + n else i
def spA (n : Nat) (a : Int) : Int := max (fs n a) 0
def spB (n : Nat) (b : Int) : Int := min (fs n b) ((n : Int) - 1)
/-- Where the span from a to b begins and ends. -/
def spF (n : Nat) (a b : Int) : Nat := if spB n b < spA n a then 0 else (spA n a).toNat
def spT (n : Nat) (a b : Int) : Nat := if spB n b < spA n a then 0 else (spB n b + 1).toNat
abbrev I64 (i : Int) : Prop := -9223372036854775808 ≤ i ∧ i ≤ 9223372036854775807
theorem sp_le (n : Nat) (a b : Int) : spF n a b ≤ spT n a b ∧ spT n a b ≤ n := by
  unfold spF spT
  split
  · omega
  · have : 0 ≤ spA n a := by unfold spA; omega
    have : spB n b ≤ (n : Int) - 1 := by unfold spB; omega
    omega

set_option maxRecDepth 100000 in
theorem span_any (n : Nat) (a b : Int) (w : World) (ha : I64 a) (hb : I64 b) (hn : n ≤ 1000000) :
    Calls Try.prog 35 #[.int .i64 n, .int .i64 a, .int .i64 b] w fun e w' => e = .returned (.tuple #[.int .i64 (spF n a b : Nat), .int .i64 (spT n a b : Nat)]) ∧ w' = w := by
  have HF : Hid (spF n a b = if spB n b < spA n a then 0 else (spA n a).toNat) := rfl
  have HT : Hid (spT n a b = if spB n b < spA n a then 0 else (spB n b + 1).toNat) := rfl
  have hA : max (fs n a) 0 = spA n a := rfl
  have hB : min (fs n b) ((n : Int) - 1) = spB n b := rfl
  have hX : (a < 0 ∧ fs n a = a + n) ∨ (0 ≤ a ∧ fs n a = a) := by unfold fs; split <;> omega
  have hY : (b < 0 ∧ fs n b = b + n) ∨ (0 ≤ b ∧ fs n b = b) := by unfold fs; split <;> omega
  generalize fs n a = X at *
  generalize fs n b = Y at *
  generalize spA n a = A at *
  generalize spB n b = B at *
  have hA' : (X < 0 ∧ A = 0) ∨ (0 ≤ X ∧ A = X) := by omega
  have hB' : ((n : Int) - 1 < Y ∧ B = n - 1) ∨ (Y ≤ (n : Int) - 1 ∧ B = Y) := by omega
  have hn0 : IntKind.i64.wrap ((n : Int) - 1) = (n : Int) - 1 := by rw [IntKind.wrap_i64]; omega
  clear hA hB
  by_cases h : B < A
  · rw [if_pos h] at HF HT
    rcases hX with ⟨h1, rfl⟩ | ⟨h1, rfl⟩ <;> rcases hY with ⟨h2, rfl⟩ | ⟨h2, rfl⟩ <;> rcases hA' with ⟨h3, rfl⟩ | ⟨h3, rfl⟩ <;> rcases hB' with ⟨h4, rfl⟩ | ⟨h4, rfl⟩ <;> first
    | (exfalso; omega)
    | (go_enter Try.func35, Try.ntmps35
       go_wp2
       go_ret2
       exact ⟨by rw [HF.out, HT.out]; rfl, rfl⟩)
  · rw [if_neg h] at HF HT
    obtain ⟨x, hx⟩ : ∃ x : Nat, A = x := ⟨A.toNat, by omega⟩
    obtain ⟨y, hy⟩ : ∃ y : Nat, B + 1 = y := ⟨(B + 1).toNat, by omega⟩
    have hFx : spF n a b = x := by rw [HF.out, hx]; rfl
    have hTy : spT n a b = y := by rw [HT.out, hy]; rfl
    rw [hFx, hTy]
    clear HF HT hFx hTy
    rcases hX with ⟨h1, rfl⟩ | ⟨h1, rfl⟩ <;> rcases hY with ⟨h2, rfl⟩ | ⟨h2, rfl⟩ <;> rcases hA' with ⟨h3, rfl⟩ | ⟨h3, rfl⟩ <;> rcases hB' with ⟨h4, rfl⟩ | ⟨h4, rfl⟩ <;> first
    | (exfalso; omega)
    | (go_enter Try.func35, Try.ntmps35
       go_wp2
       go_ret2
       first | exact ⟨rfl, rfl⟩ | (refine ⟨?_, rfl⟩; rw [← hx, ← hy]; rfl))

theorem fit_mid (l1 l2 : List Nd) (ns : List Nd) (h : ns = l1 ++ l2) : txN ns = txN l1 ++ txN l2 := by rw [h, txN_append]

end Go.Proofs.Ytemiajjjhhofaac
