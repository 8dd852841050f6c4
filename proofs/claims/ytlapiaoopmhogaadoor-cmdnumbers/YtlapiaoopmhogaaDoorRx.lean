/-
  The document's own table: its lines, small numbers; what comes of them.
-/
import Derived.Test.YtlapiaoopmhogaaDoorRw
import Derived.Test.YtlapiaoopmhogaaDoorSo
namespace Go.Proofs.YtlapiaoopmhogaaDoor
open Go.RowKit Go.PlainAid

def line1 : List UInt8 := [103, 101, 116, 33, 32, 50, 32, 50, 32, 115, 101, 116, 32, 51, 32, 56, 32, 115, 101, 116, 110, 120, 32, 51, 32, 51, 32, 103, 101, 116, 115, 101, 116, 32, 51, 32, 51, 32, 103, 101, 116, 100, 101, 108, 32, 50, 32, 50, 32, 97, 112, 112, 101, 110, 100, 32, 51, 32, 51, 32, 115, 116, 114, 108, 101, 110, 33, 32, 50, 32, 50, 32, 105, 110, 99, 114, 32, 50, 32, 50, 32, 100, 101, 99, 114, 32, 50, 32, 50, 32, 105, 110, 99, 114, 98, 121, 32, 51, 32, 51, 32, 100, 101, 99, 114, 98, 121, 32, 51, 32, 51, 32, 103, 101, 116, 114, 97, 110, 103, 101, 33, 32, 52, 32, 52, 32, 115, 101, 116, 114, 97, 110, 103, 101, 32, 52, 32, 52, 32, 103, 101, 116, 98, 105, 116, 33, 32, 51, 32, 51, 32, 115, 101, 116, 98, 105, 116, 32, 52, 32, 52, 32, 98, 105, 116, 99, 111, 117, 110, 116, 33, 32, 50, 32, 52, 32, 109, 103, 101, 116, 33, 32, 50, 32, 43, 32, 109, 115, 101, 116, 32, 51, 32, 43]
def line2 : List UInt8 := [104, 115, 101, 116, 32, 52, 32, 43, 32, 104, 115, 101, 116, 110, 120, 32, 52, 32, 52, 32, 104, 103, 101, 116, 33, 32, 51, 32, 51, 32, 104, 109, 103, 101, 116, 33, 32, 51, 32, 43, 32, 104, 100, 101, 108, 32, 51, 32, 43, 32, 104, 101, 120, 105, 115, 116, 115, 33, 32, 51, 32, 51, 32, 104, 108, 101, 110, 33, 32, 50, 32, 50, 32, 104, 107, 101, 121, 115, 33, 32, 50, 32, 50, 32, 104, 118, 97, 108, 115, 33, 32, 50, 32, 50, 32, 104, 103, 101, 116, 97, 108, 108, 33, 32, 50, 32, 50, 32, 104, 105, 110, 99, 114, 98, 121, 32, 52, 32, 52, 32, 104, 115, 116, 114, 108, 101, 110, 33, 32, 51, 32, 51, 32, 104, 115, 99, 97, 110, 33, 32, 51, 32, 55]
def line3 : List UInt8 := [115, 97, 100, 100, 32, 51, 32, 43, 32, 115, 114, 101, 109, 32, 51, 32, 43, 32, 115, 105, 115, 109, 101, 109, 98, 101, 114, 33, 32, 51, 32, 51, 32, 115, 99, 97, 114, 100, 33, 32, 50, 32, 50, 32, 115, 109, 101, 109, 98, 101, 114, 115, 33, 32, 50, 32, 50, 32, 115, 109, 111, 118, 101, 32, 52, 32, 52, 32, 115, 105, 110, 116, 101, 114, 33, 32, 50, 32, 43, 32, 115, 117, 110, 105, 111, 110, 33, 32, 50, 32, 43, 32, 115, 100, 105, 102, 102, 33, 32, 50, 32, 43, 32, 115, 112, 111, 112, 32, 50, 32, 50, 32, 115, 114, 97, 110, 100, 109, 101, 109, 98, 101, 114, 33, 32, 50, 32, 50, 32, 115, 115, 99, 97, 110, 33, 32, 51, 32, 55]
def line4 : List UInt8 := [108, 112, 117, 115, 104, 32, 51, 32, 43, 32, 114, 112, 117, 115, 104, 32, 51, 32, 43, 32, 108, 112, 111, 112, 32, 50, 32, 50, 32, 114, 112, 111, 112, 32, 50, 32, 50, 32, 108, 108, 101, 110, 33, 32, 50, 32, 50, 32, 108, 114, 97, 110, 103, 101, 33, 32, 52, 32, 52, 32, 108, 105, 110, 100, 101, 120, 33, 32, 51, 32, 51, 32, 108, 115, 101, 116, 32, 52, 32, 52, 32, 108, 105, 110, 115, 101, 114, 116, 32, 53, 32, 53, 32, 108, 114, 101, 109, 32, 52, 32, 52, 32, 108, 116, 114, 105, 109, 32, 52, 32, 52, 32, 114, 112, 111, 112, 108, 112, 117, 115, 104, 32, 51, 32, 51]
def line5 : List UInt8 := [100, 101, 108, 32, 50, 32, 43, 32, 101, 120, 105, 115, 116, 115, 33, 32, 50, 32, 43, 32, 116, 121, 112, 101, 33, 32, 50, 32, 50, 32, 101, 120, 112, 105, 114, 101, 32, 51, 32, 51, 32, 112, 101, 120, 112, 105, 114, 101, 32, 51, 32, 51, 32, 116, 116, 108, 33, 32, 50, 32, 50, 32, 112, 116, 116, 108, 33, 32, 50, 32, 50, 32, 112, 101, 114, 115, 105, 115, 116, 32, 50, 32, 50, 32, 114, 101, 110, 97, 109, 101, 32, 51, 32, 51, 32, 114, 101, 110, 97, 109, 101, 110, 120, 32, 51, 32, 51, 32, 99, 111, 112, 121, 32, 51, 32, 51, 32, 107, 101, 121, 115, 33, 32, 50, 32, 50, 32, 115, 99, 97, 110, 33, 32, 50, 32, 56, 32, 100, 98, 115, 105, 122, 101, 33, 32, 49, 32, 49, 32, 102, 108, 117, 115, 104, 97, 108, 108, 32, 49, 32, 49, 32, 114, 97, 110, 100, 111, 109, 107, 101, 121, 33, 32, 49, 32, 49, 32, 111, 98, 106, 101, 99, 116, 33, 32, 51, 32, 51]
def line6 : List UInt8 := [112, 105, 110, 103, 33, 32, 49, 32, 50, 32, 101, 99, 104, 111, 33, 32, 50, 32, 50, 32, 104, 101, 108, 108, 111, 33, 32, 49, 32, 50, 32, 109, 117, 108, 116, 105, 33, 32, 49, 32, 49, 32, 101, 120, 101, 99, 33, 32, 49, 32, 49, 32, 100, 105, 115, 99, 97, 114, 100, 33, 32, 49, 32, 49, 32, 119, 97, 116, 99, 104, 33, 32, 50, 32, 43, 32, 117, 110, 119, 97, 116, 99, 104, 33, 32, 49, 32, 49, 32, 113, 117, 105, 116, 33, 32, 49, 32, 49]
def linesM (g : Nat) : List UInt8 := if g = 1 then line1 else if g = 2 then line2 else if g = 3 then line3 else if g = 4 then line4 else if g = 5 then line5 else line6
def smB (l : List UInt8) : Bool := decide (l = [43]) || match l with
  | b :: _ => decide (48 ≤ b.toNat) && decide (b.toNat ≤ 57)
  | [] => false
def smallM (l : List UInt8) : Int := if l = [43] then 256 else ((l.headD 0).toNat : Int) - 48
theorem lst_cons (s : ByteArray) (h : 0 < s.size) : lst s = s[0]'h :: (lst s).drop 1 := by
  have := drop_at s 0 h
  simpa using this
theorem head_lst (s : ByteArray) (h : 0 < s.size) : (lst s).headD 0 = s[0]'h := by rw [lst_cons s h]; rfl

set_option maxRecDepth 100000 in
theorem small_any (s : ByteArray) (w : World) (h : smB (lst s) = true) : Calls Tryd.prog 23 #[.string s] w fun e w' => e = .returned (.int .i64 (smallM (lst s))) ∧ w' = w := by
  have he := eq_lit s [43]
  have HE : Hid (smallM (lst s) = if lst s = [43] then 256 else (((lst s).headD 0).toNat : Int) - 48) := rfl
  by_cases h43 : lst s = [43]
  · have hs : s = bs [43] := by rw [← bs_lst s, h43]
    rw [decide_eq_true hs] at he
    have HQ : Hid (smallM (lst s) = 256) := by show _ = _; rw [HE.out, if_pos h43]
    clear HE h43 h hs
    go_enter Tryd.func23, Tryd.ntmps23
    go_wp2
    go_ret
    exact ⟨by rw [HQ.out]; rfl, rfl⟩
  · have hs : ¬ s = bs [43] := fun e => h43 (by rw [e, lst_bs])
    rw [decide_eq_false hs] at he
    have h0 : 0 < s.size := by
      rcases Nat.eq_zero_or_pos s.size with h1 | h1
      · have : lst s = [] := List.eq_nil_of_length_eq_zero (by rw [len_lst]; exact h1)
        rw [this] at h; exact absurd h (by decide)
      · exact h1
    have hh := head_lst s h0
    obtain ⟨x, hx⟩ : ∃ c : Int, ((s[0]'h0).toNat : Int) = c := ⟨_, rfl⟩
    have hb : 48 ≤ x ∧ x ≤ 57 := by
      rw [lst_cons s h0, smB, ← lst_cons s h0, decide_eq_false h43, Bool.false_or, Bool.and_eq_true, decide_eq_true_eq, decide_eq_true_eq] at h
      omega
    have HQ : Hid (smallM (lst s) = x - 48) := by show _ = _; rw [HE.out, if_neg h43, hh, hx]
    have hw1 : IntKind.u8.wrap (x - 48) = x - 48 := by rw [IntKind.wrap_u8]; omega
    have h0i : (0 : Int) < s.size := by omega
    obtain ⟨hb1, hb2⟩ := hb
    clear HE h43 h hs hh
    go_enter Tryd.func23, Tryd.ntmps23
    go_wp2
    go_ret
    exact ⟨by rw [HQ.out]; rfl, rfl⟩

set_option maxRecDepth 100000 in
theorem lines_any (g : Nat) (w : World) (h1 : 1 ≤ g) (h6 : g ≤ 6) : Calls Tryd.prog 22 #[.int .i64 g] w fun e w' => e = .returned (.string (bs (linesM g))) ∧ w' = w := by
  have hc : g = 1 ∨ g = 2 ∨ g = 3 ∨ g = 4 ∨ g = 5 ∨ g = 6 := by omega
  rcases hc with rfl | rfl | rfl | rfl | rfl | rfl
  all_goals
    go_enter Tryd.func22, Tryd.ntmps22
    go_wp2
    go_ret
    exact ⟨rfl, rfl⟩

/-- One command of three words. -/
def mkC (a b c : List UInt8) (g : Nat) : Cm :=
  if a.getLast? = some 33 then ⟨bs a.dropLast, smallM b, smallM c, false, g⟩ else ⟨bs a, smallM b, smallM c, true, g⟩
def trip (g : Nat) : List (List UInt8) → List Cm
  | a :: b :: c :: r => mkC a b c g :: trip g r
  | _ => []
def tripOk : List (List UInt8) → Bool
  | a :: b :: c :: r => !a.isEmpty && (decide (a.length ≤ 100) && (smB b && (smB c && tripOk r)))
  | [] => true
  | _ => false
def rowsM (g : Nat) : List Cm := trip g (wordsM (linesM g) [])
theorem trip_at (g : Nat) : ∀ (j : Nat) (l : List (List UInt8)), tripOk l = true → 3 * j + 2 < l.length → ∃ a b c, l[3 * j]? = some a ∧ l[3 * j + 1]? = some b ∧ l[3 * j + 2]? = some c ∧ a ≠ [] ∧ a.length ≤ 100 ∧ smB b = true ∧ smB c = true ∧ (trip g l)[j]? = some (mkC a b c g)
  | 0, a :: b :: c :: r, h, _ => by
    simp only [tripOk, Bool.and_eq_true, Bool.not_eq_true', decide_eq_true_eq] at h
    obtain ⟨h1, h2, h3, h4, -⟩ := h
    exact ⟨a, b, c, rfl, rfl, rfl, by intro e; rw [e] at h1; exact absurd h1 (by decide), h2, h3, h4, rfl⟩
  | j + 1, a :: b :: c :: r, h, hl => by
    simp only [tripOk, Bool.and_eq_true] at h
    obtain ⟨-, -, -, -, h5⟩ := h
    have ih := trip_at g j r h5 (by simp only [List.length_cons] at hl; omega)
    rw [show 3 * (j + 1) = 3 * j + 1 + 1 + 1 by omega]
    exact ih
  | _, [], _, hl => by simp at hl
  | _, [_], _, hl => by simp only [List.length_cons, List.length_nil] at hl; omega
  | _, [_, _], _, hl => by simp only [List.length_cons, List.length_nil] at hl; omega
theorem trip_len (g : Nat) : ∀ (l : List (List UInt8)), tripOk l = true → l.length = 3 * (trip g l).length
  | [], _ => rfl
  | [_], h => by simp [tripOk] at h
  | [_, _], h => by simp [tripOk] at h
  | a :: b :: c :: r, h => by
    simp only [tripOk, Bool.and_eq_true] at h
    have ih := trip_len g r h.2.2.2.2
    simp only [trip, List.length_cons]
    omega
/-- Where a name stands among the first k. -/
def posM (out : List Cm) (nm : ByteArray) : Nat → Nat
  | 0 => 0
  | k + 1 => if ltD nm (out.getD k Cm.z).nm = true then posM out nm k else k + 1
theorem posM_le (out : List Cm) (nm : ByteArray) : ∀ k, posM out nm k ≤ k
  | 0 => Nat.le_refl _
  | k + 1 => by
    unfold posM
    split
    · exact Nat.le_succ_of_le (posM_le out nm k)
    · exact Nat.le_refl _
def insC (out : List Cm) (c : Cm) : List Cm := out.take (posM out c.nm out.length) ++ [c] ++ out.drop (posM out c.nm out.length)
theorem insC_len (out : List Cm) (c : Cm) : (insC out c).length = out.length + 1 := by
  have := posM_le out c.nm out.length
  simp [insC, List.length_take, List.length_drop]; omega
def allTo : Nat → List Cm
  | 0 => []
  | g + 1 => (rowsM (g + 1)).foldl insC (allTo g)
def eqC (a b : Cm) : Bool := decide (a.nm.data.toList = b.nm.data.toList) && (decide (a.lo = b.lo) && (decide (a.hi = b.hi) && ((a.wr == b.wr) && decide (a.gr = b.gr))))
theorem eqC_yes {a b : Cm} (h : eqC a b = true) : a = b := by
  simp only [eqC, Bool.and_eq_true, decide_eq_true_eq, beq_iff_eq] at h
  obtain ⟨h1, h2, h3, h4, h5⟩ := h
  obtain ⟨⟨⟨n1⟩⟩, lo, hi, wb, gr⟩ := a
  obtain ⟨⟨⟨n2⟩⟩, lo2, hi2, wb2, gr2⟩ := b
  simp only at h1 h2 h3 h4 h5
  subst h1 h2 h3 h4 h5
  rfl
def eqL : List Cm → List Cm → Bool
  | [], [] => true
  | a :: l, b :: m => eqC a b && eqL l m
  | _, _ => false
theorem eqL_yes : ∀ {l m : List Cm}, eqL l m = true → l = m
  | [], [], _ => rfl
  | a :: l, b :: m, h => by
    simp only [eqL, Bool.and_eq_true] at h
    rw [eqC_yes h.1, eqL_yes h.2]
  | [], _ :: _, h => by simp [eqL] at h
  | _ :: _, [], h => by simp [eqL] at h
theorem ok1 : tripOk (wordsM (linesM 1) []) = true := by kernel_rfl
theorem ok2 : tripOk (wordsM (linesM 2) []) = true := by kernel_rfl
theorem ok3 : tripOk (wordsM (linesM 3) []) = true := by kernel_rfl
theorem ok4 : tripOk (wordsM (linesM 4) []) = true := by kernel_rfl
theorem ok5 : tripOk (wordsM (linesM 5) []) = true := by kernel_rfl
theorem ok6 : tripOk (wordsM (linesM 6) []) = true := by kernel_rfl
theorem okg (g : Nat) (h1 : 1 ≤ g) (h6 : g ≤ 6) : tripOk (wordsM (linesM g) []) = true := by
  have hc : g = 1 ∨ g = 2 ∨ g = 3 ∨ g = 4 ∨ g = 5 ∨ g = 6 := by omega
  rcases hc with rfl | rfl | rfl | rfl | rfl | rfl
  · exact ok1
  · exact ok2
  · exact ok3
  · exact ok4
  · exact ok5
  · exact ok6
theorem sizes (g : Nat) (h1 : 1 ≤ g) (h6 : g ≤ 6) : (linesM g).length ≤ 1000 ∧ (wordsM (linesM g) []).length ≤ 100 := by
  have hc : g = 1 ∨ g = 2 ∨ g = 3 ∨ g = 4 ∨ g = 5 ∨ g = 6 := by omega
  rcases hc with rfl | rfl | rfl | rfl | rfl | rfl <;> exact of_decide_eq_true (by kernel_rfl)
theorem all_refs : allTo 6 = refs := eqL_yes (by kernel_rfl)
theorem refs_names : srted = true := srted_yes
end Go.Proofs.YtlapiaoopmhogaaDoor
