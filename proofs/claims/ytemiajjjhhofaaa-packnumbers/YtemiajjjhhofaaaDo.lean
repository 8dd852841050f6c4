/-
  The law's do, all of it.
-/
import Derived.Test.YtemiajjjhhofaaaDo3
import Derived.Test.YtemiajjjhhofaaaDo4
namespace Go.Proofs.Ytemiajjjhhofaaa
open Go.RowKit Go.PlainAid

/-- What Insert leaves. -/
def insN (l : List ByteArray) (i : Int) (ins : List ByteArray) : List ByteArray :=
  if 0 ≤ i ∧ i ≤ l.length then
    if ins.all (fun s => decide (s.size ≤ 4096)) = true then
      if 65536 < (pack l).length + (pack ins).length then l else l.take i.toNat ++ (ins ++ l.drop i.toNat)
    else l
  else l
/-- What a call leaves. -/
def nxt (l : List ByteArray) (kind i N : Int) (xl : List ByteArray) : List ByteArray :=
  if kind = 1 then insN l i (few xl 6 5000)
  else if kind = 2 then setN l i (fst1 xl 5000)
  else if kind = 3 then delN l i N
  else l
/-- The texts of a pack. -/
def Good (l : List ByteArray) : Prop := Fit l ∧ (pack l).length ≤ 65536

theorem fit_all {ls : List ByteArray} : Fit ls ↔ ls.all (fun s => decide (s.size ≤ 4096)) = true := by
  rw [List.all_eq_true]
  constructor
  · intro h s hs; simpa using h s hs
  · intro h s hs; simpa using h s hs
theorem good_ins {l ins : List ByteArray} (h : Good l) (i : Int) : Good (insN l i ins) := by
  unfold insN
  split
  · split
    · rename_i h1 h2
      split
      · exact h
      · have hf := fit_all.2 h2
        refine ⟨fun s hs => ?_, ?_⟩
        · rcases List.mem_append.1 hs with h | h'
          · exact (by have := (‹Good l›).1; exact this s (List.mem_of_mem_take h))
          · rcases List.mem_append.1 h' with h' | h'
            · exact hf s h'
            · exact h.1 s (List.mem_of_mem_drop h')
        · have h3 : pack l = pack (l.take i.toNat) ++ pack (l.drop i.toNat) := by rw [← pack_append, List.take_append_drop]
          have h4 := congrArg List.length h3
          rw [List.length_append] at h4
          rw [pack_append, pack_append, List.length_append, List.length_append]
          omega
    · exact h
  · exact h
theorem good_set {l : List ByteArray} (h : Good l) (i : Int) (s : ByteArray) : Good (setN l i s) := by
  unfold setN
  split
  · exact h
  · split
    · exact h
    · split
      · exact h
      · exact ⟨fit_set h.1 (by omega), by omega⟩
theorem good_del {l : List ByteArray} (h : Good l) (i N : Int) : Good (delN l i N) := by
  unfold delN
  split
  · exact h
  · rename_i k hk
    refine ⟨fun s hs => ?_, ?_⟩
    · rcases List.mem_append.1 hs with h' | h'
      · exact h.1 s (List.mem_of_mem_take h')
      · exact h.1 s (List.mem_of_mem_drop h')
    · have h3 : pack l = pack (l.take k) ++ pack (l.drop k) := by rw [← pack_append, List.take_append_drop]
      have h4 : pack (l.drop k) = pack ((l.drop k).take (gone l k N)) ++ pack (l.drop (k + gone l k N)) := by
        rw [← List.drop_drop, ← pack_append, List.take_append_drop]
      have h5 := h.2
      rw [h3, h4, List.length_append, List.length_append] at h5
      rw [pack_append, List.length_append]
      omega
theorem good_nxt {l : List ByteArray} (h : Good l) (kind i N : Int) (xl : List ByteArray) : Good (nxt l kind i N xl) := by
  unfold nxt
  split
  · exact good_ins h i
  · split
    · exact good_set h i _
    · split
      · exact good_del h i N
      · exact h

theorem do_any (B p : Nat) (a : Option Addr) (n c : Nat) (l : List ByteArray) (la : Option Addr) (ln lc : Nat) (kind i N : Int) (xa : Option Addr) (xn xc : Nat) (xl : List ByteArray) (w : World) (hP : Pk w B p a n c l) (hg : Good l) (hO : OwnS w B la ln lc l) (hR : RdS w xa xn xl) (hi1 : -9223372036854775808 ≤ i) (hi2 : i ≤ 9223372036854775807) :
    Calls Try.prog 10 #[ptr p, .slice la ln lc, askV kind i N xa xn xc] w fun e w' => Did w B p (nxt l kind i N xl) e w' := by
  have hl := hP.own.len
  have hn : n ≤ 65536 := by have := hg.2; omega
  unfold nxt
  by_cases h1 : kind = 1
  · rw [if_pos h1]
    subst h1
    unfold insN
    by_cases hi : 0 ≤ i ∧ i ≤ l.length
    · rw [if_pos hi]
      obtain ⟨j, rfl⟩ := Int.eq_ofNat_of_zero_le hi.1
      rw [Int.toNat_natCast]
      by_cases hf : Fit (few xl 6 5000)
      · rw [if_pos (fit_all.1 hf)]
        exact do1_fit B p a n c l la ln lc j N xa xn xc xl w hP hg.1 hn hO hR (by omega) hf _ (by rw [hl])
      · rw [if_neg (fun h => hf (fit_all.2 h))]
        exact do1_long B p a n c l la ln lc j N xa xn xc xl w hP hg.1 hO hR (by omega) hf
    · rw [if_neg hi]
      exact do1_index B p a n c l la ln lc i N xa xn xc xl w hP hg.1 hO hR hi
  · rw [if_neg h1]
    by_cases h2 : kind = 2
    · rw [if_pos h2]
      subst h2
      exact do2_any B p a n c l la ln lc i N xa xn xc xl w hP hg.1 hn hO hR hi1 hi2
    · rw [if_neg h2]
      by_cases h3 : kind = 3
      · rw [if_pos h3]
        subst h3
        exact do3_any B p a n c l la ln lc i N xa xn xc w hP hg.1 hn hO hi1 hi2
      · rw [if_neg h3]
        by_cases h4 : kind = 4
        · subst h4
          exact do4_any B p a n c l la ln lc i N xa xn xc xl w hP hg.1 hn hO hR hi1 hi2
        · exact do_else B p a n c l la ln lc kind i N xa xn xc w hP hO ⟨h1, h2, h3, h4⟩
end Go.Proofs.Ytemiajjjhhofaaa
