/-
  Rows of rows of texts in memory.
-/
import Derived.Test.YtkoepgjdjbmknaaUw
import Derived.Test.YtkoepgjdjbmknaaRt
namespace Go.Proofs.Ytkoepgjdjbmknaa
open Go.RowKit Go.PlainAid

/-- A slice, by its parts. -/
abbrev Tr := Option Addr × Nat × Nat
def trV (t : Tr) : Value := .slice t.1 t.2.1 t.2.2

/-- A row of rows of texts of the call's own. -/
structure OwnSS (w : World) (B : Nat) (a : Option Addr) (n c : Nat) (L : List (List ByteArray)) (T : List Tr) : Prop where
  own : OwnR w B 22 1 a n c (T.map trV)
  len : T.length = L.length
  row : ∀ (j : Nat) (t : Tr) (ls : List ByteArray), T[j]? = some t → L[j]? = some ls → OwnS w B t.1 t.2.1 t.2.2 ls
theorem OwnSS.nil (w : World) (B : Nat) : OwnSS w B none 0 0 [] [] := ⟨OwnR.nil w B _ 1, rfl, fun j t ls h => by simp at h⟩
theorem OwnSS.count {w : World} {B : Nat} {a : Option Addr} {n c : Nat} {L : List (List ByteArray)} {T : List Tr} (h : OwnSS w B a n c L T) : L.length = n := by
  have := h.own.len
  rw [List.length_map, Nat.mul_one, h.len] at this
  exact this
theorem OwnSS.keep {w wn : World} {B : Nat} {a : Option Addr} {n c : Nat} {L : List (List ByteArray)} {T : List Tr} (h : OwnSS w B a n c L T) (hb : Below w.heap.size w wn) : OwnSS wn B a n c L T :=
  ⟨h.own.keep hb, h.len, fun j t ls h1 h2 => (h.row j t ls h1 h2).keep hb⟩
theorem OwnSS.low {w : World} {B C : Nat} {a : Option Addr} {n c : Nat} {L : List (List ByteArray)} {T : List Tr} (h : OwnSS w B a n c L T) (hC : C ≤ B) : OwnSS w C a n c L T :=
  ⟨h.own.low hC, h.len, fun j t ls h1 h2 => (h.row j t ls h1 h2).low hC⟩
/-- What append to a row of slices leaves of a row of texts. -/
theorem OwnS.past {w w2 : World} {B B2 : Nat} {a : Option Addr} {n c : Nat} {vs : List Value} (h : OwnR w B 22 1 a n c vs) (hg : w.grownBy w2 (a.map (·.block))) {a' : Option Addr} {n' c' : Nat} {ls : List ByteArray} (h' : OwnS w B2 a' n' c' ls) : OwnS w2 B2 a' n' c' ls :=
  OwnR.grown (e := 9) (s := 1) h' hg fun k hk hk2 => by
    obtain ⟨-, -, cur, h1⟩ := OwnR.lt (e := 9) (s := 1) h' hk
    obtain ⟨-, -, cur2, h2⟩ := h.lt hk2
    rw [h1] at h2
    cases h2
theorem OwnSS.cell {w : World} {B : Nat} {a : Option Addr} {n c : Nat} {L : List (List ByteArray)} {T : List Tr} (h : OwnSS w B a n c L T) (j : Nat) (hj : j < n) : ∃ g a' n' c', a = some ⟨g, 0, none⟩ ∧ w.cell? ⟨g, j, none⟩ = some (.slice a' n' c') ∧ OwnS w B a' n' c' (L.getD j []) := by
  obtain ⟨g, rfl, hc⟩ := h.own.at (by omega)
  have hc1 := h.count
  have hc2 := h.len
  have ht : T[j]? = some (T[j]'(by omega)) := List.getElem?_eq_getElem (by omega)
  refine ⟨g, _, _, _, rfl, hc j (trV (T[j]'(by omega))) (by rw [List.getElem?_map, ht]; rfl), ?_⟩
  refine h.row j _ _ ht ?_
  rw [List.getD_eq_getElem?_getD, List.getElem?_eq_getElem (by omega)]; rfl

theorem Try.infoS : (Try.prog.info? 22).map (fun i => (i.zero, i.size, i.bytes)) = some (some (.slice none 0 0), 1, 24) := by kernel_rfl
theorem eltS : Elt 33 22 1 24 := elt_of Try.underlying33 Try.infoS rfl (by decide)

/-- l = append(l, row). -/
theorem append_ss {w : World} {ops : Array Oper} {rest : List Oper} {o : Oper} {ac : Act} {Q : Exit → Act → World → Prop} (hgd : o.guard = none) (s x : Operand) (ho : o.op = .call { callee := .builtin .append, args := #[s, x], argTypes := #[33, 33] })
    (B : Nat) {a : Option Addr} {n c : Nat} {L : List (List ByteArray)} {T : List Tr} (hs : ac.eval s = .slice a n c) (hown : OwnSS w B a n c L T) {g : Nat} {t : Tr} {ls : List ByteArray} (hx : ac.eval x = .slice (some ⟨g, 0, none⟩) 1 1)
    (hr : w.cell? ⟨g, 0, none⟩ = some (trV t)) (ht : OwnS w B t.1 t.2.1 t.2.2 ls) (hb : n + 1 ≤ 1000000) (hB : B ≤ w.heap.size)
    (h : ∀ a2 n2 c2 w2, n2 = n + 1 → OwnSS w2 B a2 n2 c2 (L ++ [ls]) (T ++ [t]) → Below B w w2 → wpList Try.prog ops Q rest (ac.put o.dst (.slice a2 n2 c2)) w2) : wpList Try.prog ops Q (o :: rest) ac w := by
  refine append_r hgd s x ho eltS B hs hown.own [trV t] hx rfl ?_ ?_ (by omega) (by omega) (by unfold maxLen; omega) hB ?_
  · intro j u hu
    cases j with
    | zero => rw [add_flat, Nat.add_zero, hr]; exact hu
    | succ j => simp at hu
  · intro u hu
    rw [List.mem_singleton.1 hu]; rfl
  · intro a2 n2 c2 w2 hn2 hO2 hG2 _
    refine h a2 n2 c2 w2 hn2 ⟨?_, ?_, ?_⟩ (hown.own.below hG2.out hB)
    · rw [List.map_append]; exact hO2.out
    · rw [List.length_append, List.length_append, hown.len]; rfl
    · intro j t' ls' h1 h2
      by_cases hj : j < T.length
      · rw [List.getElem?_append_left hj] at h1
        rw [List.getElem?_append_left (by have := hown.len; omega)] at h2
        exact OwnS.past hown.own hG2.out (hown.row j t' ls' h1 h2)
      · have hl := hown.len
        rw [List.getElem?_append_right (by omega)] at h1
        rw [List.getElem?_append_right (by omega)] at h2
        have e1 : j - T.length = 0 := by
          rcases hq : j - T.length with _ | q
          · rfl
          · rw [hq] at h1; simp at h1
        rw [e1] at h1
        rw [← hl, e1] at h2
        cases h1
        cases h2
        exact OwnS.past hown.own hG2.out ht
end Go.Proofs.Ytkoepgjdjbmknaa
