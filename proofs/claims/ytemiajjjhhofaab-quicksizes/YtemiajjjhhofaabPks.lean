/-
  Where the texts of a pack lie.
-/
import Derived.Test.YtemiajjjhhofaabStrs
namespace Go.Proofs.Ytemiajjjhhofaab

/-- Where the i-th text begins. -/
def off (ls : List ByteArray) (i : Nat) : Nat := (pack (ls.take i)).length
/-- No text is too long. -/
def Fit (ls : List ByteArray) : Prop := ∀ s ∈ ls, s.size ≤ 4096
def txt (ls : List ByteArray) (i : Nat) : ByteArray := ls.getD i ByteArray.empty

theorem off_zero (ls : List ByteArray) : off ls 0 = 0 := rfl
theorem off_all (ls : List ByteArray) {i : Nat} (h : ls.length ≤ i) : off ls i = (pack ls).length := by rw [off, List.take_of_length_le h]
theorem off_succ (ls : List ByteArray) {i : Nat} (h : i < ls.length) : off ls (i + 1) = off ls i + (enc (lst (txt ls i))).length := by
  rw [off, pack_take ls i h, List.length_append]; rfl
theorem off_step (ls : List ByteArray) {i : Nat} (h : i < ls.length) : off ls i + 2 ≤ off ls (i + 1) := by
  have := (enc_len (lst (txt ls i))).1
  rw [off_succ ls h]; omega
theorem off_le (ls : List ByteArray) (i : Nat) : off ls i ≤ (pack ls).length := by
  rw [off]
  conv => rhs; rw [← List.take_append_drop i ls, pack_append, List.length_append]
  omega
theorem off_lt (ls : List ByteArray) {i : Nat} (h : i < ls.length) : off ls i < (pack ls).length := by
  have := off_step ls h
  have := off_le ls (i + 1)
  omega
theorem off_pos (ls : List ByteArray) {i : Nat} (h : 0 < i) (h2 : i ≤ ls.length) : 0 < off ls i := by
  obtain ⟨k, rfl⟩ : ∃ k, i = k + 1 := ⟨i - 1, by omega⟩
  have := off_step ls (i := k) (by omega)
  omega
theorem len_pack (ls : List ByteArray) : 2 * ls.length ≤ (pack ls).length := by
  induction ls with
  | nil => simp [pack]
  | cons s r ih =>
    have := (enc_len (lst s)).1
    rw [pack, List.length_append, List.length_cons]; omega
theorem Fit.at {ls : List ByteArray} (h : Fit ls) {i : Nat} (hi : i < ls.length) : (txt ls i).size ≤ 4096 := short_get h i hi

theorem decAt_off {ls : List ByteArray} (hf : Fit ls) {i : Nat} (h : i < ls.length) : decAt (pack ls) (off ls i : Nat) = some (lst (txt ls i), off ls (i + 1)) := by
  have h1 := pack_split ls i h
  rw [h1, off, decAt_enc _ _ _ (by rw [len_lst]; exact hf.at h), off_succ ls h]; rfl
theorem bkAt_off {ls : List ByteArray} (hf : Fit ls) {i : Nat} (h : i < ls.length) : bkAt (pack ls) (off ls (i + 1) : Nat) = some ((off ls i : Nat) : Int) := by
  have h1 := pack_split ls i h
  have h2 := bkAt_enc (pack (ls.take i)) (lst (txt ls i)) (pack (ls.drop (i + 1))) (by rw [len_lst]; exact hf.at h)
  rw [off_succ ls h, h1]
  exact h2

theorem take_off (ls : List ByteArray) (i : Nat) : (pack ls).take (off ls i) = pack (ls.take i) := by
  have h : pack ls = pack (ls.take i) ++ pack (ls.drop i) := by rw [← pack_append, List.take_append_drop]
  rw [h, off, List.take_left]
theorem drop_off (ls : List ByteArray) (i : Nat) : (pack ls).drop (off ls i) = pack (ls.drop i) := by
  have h : pack ls = pack (ls.take i) ++ pack (ls.drop i) := by rw [← pack_append, List.take_append_drop]
  rw [h, off, List.drop_left]

/-- The texts that a row of bytes has, if it is a pack's. -/
def split : Nat → List UInt8 → Option (List ByteArray)
  | _, [] => some []
  | 0, _ :: _ => none
  | f + 1, x :: r => match dec1 (x :: r) with
    | none => none
    | some (s, k) => (split f ((x :: r).drop k)).map (bs s :: ·)
theorem dec1_pos {b s : List UInt8} {k : Nat} (h : dec1 b = some (s, k)) : k = (enc s).length ∧ b = enc s ++ b.drop k ∧ s.length ≤ 4096 := by
  have hl := (dec1_len h).2
  rw [dec_same] at h
  unfold dec2 at h
  split at h
  · cases h
  · split at h
    · cases h
    · split at h
      · rename_i hp
        cases h
        obtain ⟨r, hr⟩ := pre_ex hp
        refine ⟨rfl, ?_, hl⟩
        rw [hr, List.drop_left]
      · cases h
theorem split_some : ∀ (f : Nat) (b : List UInt8) (ls : List ByteArray), split f b = some ls → pack ls = b ∧ Fit ls
  | f, [], ls, h => by
    cases f <;> cases h <;> exact ⟨rfl, fun s hs => absurd hs (by simp)⟩
  | 0, x :: r, ls, h => by cases h
  | f + 1, x :: r, ls, h => by
    unfold split at h
    cases hd : dec1 (x :: r) with
    | none => rw [hd] at h; cases h
    | some p =>
      obtain ⟨s, k⟩ := p
      rw [hd] at h
      obtain ⟨h1, h2, h3⟩ := dec1_pos hd
      cases hs : split f ((x :: r).drop k) with
      | none => simp only [hs] at h; cases h
      | some m =>
        simp only [hs] at h
        cases h
        obtain ⟨h4, h5⟩ := split_some f _ m hs
        refine ⟨?_, fun t ht => ?_⟩
        · rw [pack, lst_bs, h4, ← h2]
        · rcases List.mem_cons.1 ht with rfl | ht
          · exact h3
          · exact h5 t ht
end Go.Proofs.Ytemiajjjhhofaab
