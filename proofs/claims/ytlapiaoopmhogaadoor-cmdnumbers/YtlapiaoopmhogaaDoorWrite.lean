/-
  Numbers, written: the document's own Unsigned and Format, and the program's.
-/
import Derived.Test.YtlapiaoopmhogaaDoorRead
import Derived.Lib.ConvBytes
namespace Go.Proofs.YtlapiaoopmhogaaDoor
open Go.RowKit Go.PlainAid

/-- A row of bytes as a text. -/
def bs (l : List UInt8) : ByteArray := ⟨l.toArray⟩
theorem lst_bs (l : List UInt8) : lst (bs l) = l := rfl
theorem bs_lst (s : ByteArray) : bs (lst s) = s := rfl
theorem size_bs (l : List UInt8) : (bs l).size = l.length := rfl
theorem bs_inj {l r : List UInt8} (h : bs l = bs r) : l = r := by
  have := congrArg lst h; exact this
theorem cons_bs (b : UInt8) (l : List UInt8) : (⟨#[b]⟩ : ByteArray) ++ bs l = bs (b :: l) := ByteArray.mk_append_mk [b] l

theorem encode_small (n : Int) (h0 : 0 ≤ n) (h : n < 128) : Utf8.encode n = ⟨#[UInt8.ofNat n.toNat]⟩ := by
  have hv : Utf8.valid n = true := by simp [Utf8.valid]; omega
  have hlt : n.toNat < 128 := by omega
  unfold Utf8.encode
  simp only [hv, if_true]
  rw [if_pos hlt]

/-- What stands while n is written: m is left, t is there. -/
def Un (n m : Nat) (t : List UInt8) : Prop := (t = [] ∧ m = n) ∨ (t ≠ [] ∧ (m = 0 ∧ t = dec n ∨ 0 < m ∧ dec m ++ t = dec n))

theorem Un.eq {n m : Nat} {t : List UInt8} (h : Un n m t) (hc : 0 < m ∨ t = []) : dec m ++ t = dec n := by
  rcases h with ⟨rfl, rfl⟩ | ⟨hne, ⟨h1, -⟩ | ⟨-, h2⟩⟩
  · simp
  · rcases hc with hc | hc
    · omega
    · exact absurd hc hne
  · exact h2
theorem Un.step {n m : Nat} {t : List UInt8} (h : Un n m t) (hc : 0 < m ∨ t = []) : Un n (m / 10) (UInt8.ofNat (48 + m % 10) :: t) := by
  have e := h.eq hc
  refine .inr ⟨by simp, ?_⟩
  by_cases hm : m < 10
  · refine .inl ⟨by omega, ?_⟩
    rw [dec_low hm] at e
    rw [← e, Nat.mod_eq_of_lt hm]; rfl
  · refine .inr ⟨by omega, ?_⟩
    rw [dec_high hm] at e
    rw [← e]; simp
theorem Un.len {n m : Nat} {t : List UInt8} (h : Un n m t) (hc : 0 < m ∨ t = []) (hn : n < 18446744073709551616) : t.length < 20 := by
  have e := congrArg List.length (h.eq hc)
  have := dec_len20 hn
  have hp : 0 < (dec m).length := List.length_pos_iff.2 (dec_ne m)
  simp at e; omega
theorem Un.done {n m : Nat} {t : List UInt8} (h : Un n m t) (hm : m = 0) (ht : t ≠ []) : dec n = t := by
  rcases h with ⟨h, -⟩ | ⟨-, ⟨-, h⟩ | ⟨h, -⟩⟩
  · exact absurd h ht
  · exact h.symm
  · omega
theorem Un.le {n m : Nat} {t : List UInt8} (h : Un n m t) (hn : n < 18446744073709551616) : t.length ≤ 20 := by
  by_cases hc : 0 < m ∨ t = []
  · have := h.len hc hn; omega
  · have := dec_len20 hn
    rw [h.done (by omega) (fun e => hc (.inr e))] at this; exact this

/-- The row of twenty bytes, t at its end. -/
structure Room (w wr : World) (t : List UInt8) : Prop where
  below : Below w.heap.size w wr
  size : w.heap.size < wr.heap.size
  cell : ∀ j (h : j < t.length), wr.cell? ⟨w.heap.size, 20 - t.length + j, none⟩ = some (.int .u8 (t[j].toNat : Nat))
  any : ∀ j, j < 20 → ∃ v, wr.cell? ⟨w.heap.size, j, none⟩ = some v
  free : ∀ j, j < 20 → wr.frozen? ⟨w.heap.size, j, none⟩ = false

theorem Room.set {w wr : World} {t : List UInt8} (R : Room w wr t) (f : Nat) (hf : f + 1 + t.length = 20) (b : UInt8) (x : Int) (hx : x = (b.toNat : Nat)) : Room w (wr.setCell ⟨w.heap.size, f, none⟩ (.int .u8 x)) (b :: t) where
  below := R.below.setCell (Nat.le_refl _) _
  size := by simpa using R.size
  cell j hj := by
    rw [List.length_cons] at hj
    rw [show 20 - (b :: t).length + j = f + j by simp; omega]
    cases j with
    | zero =>
      obtain ⟨v, hv⟩ := R.any f (by omega)
      rw [Nat.add_zero, World.cell?_setCell_same _ _ _ hv, hx]; rfl
    | succ j =>
      rw [World.cell?_setCell_other (a := ⟨w.heap.size, f, none⟩) (b := ⟨w.heap.size, f + (j + 1), none⟩) _ _ (by intro h; injection h; omega)]
      have := R.cell j (by omega)
      rw [show 20 - t.length + j = f + (j + 1) by omega] at this
      rw [this]; rfl
  any j hj := by
    by_cases e : j = f
    · subst e
      obtain ⟨v, hv⟩ := R.any j hj
      exact ⟨_, World.cell?_setCell_same _ _ _ hv⟩
    · rw [World.cell?_setCell_other (a := ⟨w.heap.size, f, none⟩) (b := ⟨w.heap.size, j, none⟩) _ _ (by intro h; cases h; exact e rfl)]
      exact R.any j hj
  free j hj := by simpa using R.free j hj

theorem digit_int {m : Nat} {M : Int} (h : (m : Int) = M) : 48 + M % 10 = ((UInt8.ofNat (48 + m % 10)).toNat : Nat) := by
  rw [digit_toNat _ (by omega)]; omega

theorem fmtL_neg {n : Int} (h : n < 0) : fmtL n = 45 :: dec (-n).toNat := by unfold fmtL; rw [if_pos h]
theorem fmtL_pos {n : Int} (h : ¬ n < 0) : fmtL n = dec n.toNat := by unfold fmtL; rw [if_neg h]

theorem minus_bs (l : List UInt8) : (⟨#[45]⟩ : ByteArray) ++ bs l = bs (45 :: l) := cons_bs 45 l

end Go.Proofs.YtlapiaoopmhogaaDoor
