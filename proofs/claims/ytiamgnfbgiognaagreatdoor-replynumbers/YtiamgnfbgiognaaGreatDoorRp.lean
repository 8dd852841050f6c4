/-
  Replies in memory: fields, rows of them, trees.
-/
import Derived.Test.YtiamgnfbgiognaaGreatDoorMb
namespace Go.Proofs.YtiamgnfbgiognaaGreatDoor
open Go.RowKit Go.PlainAid

/-- A reply's fields as they lie in memory. -/
structure El where
  k : Int
  s : ByteArray
  n : Int
  a : Option Addr
  m : Nat
  c : Nat
def El.z : El := ⟨0, ⟨#[]⟩, 0, none, 0, 0⟩
def El.cs (e : El) : List Value := [.int .i64 e.k, .string e.s, .int .i64 e.n, .slice e.a e.m e.c]
def El.v (e : El) : Value := .agg #[.int .i64 e.k, .string e.s, .int .i64 e.n, .slice e.a e.m e.c]
def rcells (es : List El) : List Value := es.flatMap El.cs
theorem rcells_len (es : List El) : (rcells es).length = es.length * 4 := by
  unfold rcells
  induction es with
  | nil => rfl
  | cons e es ih => rw [List.flatMap_cons, List.length_append, ih]; simp [El.cs]; omega
theorem rcells_append (l r : List El) : rcells (l ++ r) = rcells l ++ rcells r := List.flatMap_append
theorem rcells_get : ∀ (es : List El) (j : Nat) (e : El), es[j]? = some e → (rcells es)[j * 4]? = some (.int .i64 e.k) ∧ (rcells es)[j * 4 + 1]? = some (.string e.s) ∧ (rcells es)[j * 4 + 2]? = some (.int .i64 e.n) ∧ (rcells es)[j * 4 + 3]? = some (.slice e.a e.m e.c)
  | [], _, _, h => by simp at h
  | x :: es, 0, e, h => by
    simp at h; subst h
    exact ⟨rfl, rfl, rfl, rfl⟩
  | x :: es, j + 1, e, h => by
    have ih := rcells_get es j e (by simpa using h)
    have e1 : rcells (x :: es) = .int .i64 x.k :: .string x.s :: .int .i64 x.n :: .slice x.a x.m x.c :: rcells es := rfl
    rw [e1, show (j + 1) * 4 = j * 4 + 1 + 1 + 1 + 1 by omega]
    exact ih
theorem rcells_set : ∀ (es : List El) (j : Nat) (e : El), ((((rcells es).set (j * 4) (.int .i64 e.k)).set (j * 4 + 1) (.string e.s)).set (j * 4 + 2) (.int .i64 e.n)).set (j * 4 + 3) (.slice e.a e.m e.c) = rcells (es.set j e)
  | [], j, e => by simp [rcells]
  | x :: es, 0, e => rfl
  | x :: es, j + 1, e => by
    have ih := rcells_set es j e
    have e1 : ∀ x es, rcells (x :: es) = .int .i64 x.k :: .string x.s :: .int .i64 x.n :: .slice x.a x.m x.c :: rcells es := fun _ _ => rfl
    rw [List.set_cons_succ, e1, e1, ← ih, show (j + 1) * 4 = j * 4 + 1 + 1 + 1 + 1 by omega]
    rfl
theorem rcells_one (es : List El) : ∀ u ∈ rcells es, u.oneCell' = true := by
  intro u hu
  obtain ⟨e, -, h⟩ := List.mem_flatMap.1 hu
  simp only [El.cs, List.mem_cons, List.not_mem_nil, or_false] at h
  rcases h with rfl | rfl | rfl | rfl <;> rfl

/-- A slice that reads es, in a block of F. -/
structure RdE (w : World) (F : Nat → Prop) (a : Option Addr) (m c : Nat) (es : List El) : Prop where
  len : es.length = m
  fit : m ≤ c
  max : c ≤ maxLen
  nul : a = none → c = 0
  cell : ∀ j e, es[j]? = some e → ∃ g o, a = some ⟨g, o, none⟩ ∧ F g ∧ w.cell? ⟨g, o + j * 4, none⟩ = some (.int .i64 e.k) ∧ w.cell? ⟨g, o + j * 4 + 1, none⟩ = some (.string e.s) ∧ w.cell? ⟨g, o + j * 4 + 2, none⟩ = some (.int .i64 e.n) ∧ w.cell? ⟨g, o + j * 4 + 3, none⟩ = some (.slice e.a e.m e.c)
theorem RdE.mono {w : World} {F G : Nat → Prop} {a : Option Addr} {m c : Nat} {es : List El} (h : RdE w F a m c es) (hF : ∀ g, g < w.heap.size → F g → G g) : RdE w G a m c es :=
  ⟨h.len, h.fit, h.max, h.nul, fun j e he => by
    obtain ⟨g, o, h1, h2, h3⟩ := h.cell j e he
    exact ⟨g, o, h1, hF g (World.block_lt_of_cell? w _ h3.1) h2, h3⟩⟩
theorem RdE.keep {w w' : World} {F : Nat → Prop} {a : Option Addr} {m c : Nat} {es : List El} (h : RdE w F a m c es) (hF : ∀ g, g < w.heap.size → F g → w'.heap[g]? = w.heap[g]?) : RdE w' F a m c es :=
  ⟨h.len, h.fit, h.max, h.nul, fun j e he => by
    obtain ⟨g, o, h1, h2, h3, h4, h5, h6⟩ := h.cell j e he
    have hb := hF g (World.block_lt_of_cell? w _ h3) h2
    refine ⟨g, o, h1, h2, ?_, ?_, ?_, ?_⟩
    · rw [World.cell?_of_block hb]; exact h3
    · rw [World.cell?_of_block hb]; exact h4
    · rw [World.cell?_of_block hb]; exact h5
    · rw [World.cell?_of_block hb]; exact h6⟩
theorem RdE.nil (w : World) (F : Nat → Prop) : RdE w F none 0 0 [] := ⟨rfl, Nat.le_refl _, by decide, fun _ => rfl, fun j e h => by simp at h⟩

/-- The slice holds the trees l, at most d deep, each with at most twelve parts. -/
def Hd (w : World) (F : Nat → Prop) : Nat → Option Addr → Nat → Nat → List RT → Prop
  | 0, a, m, c, l => l = [] ∧ RdE w F a m c []
  | d + 1, a, m, c, l => ∃ es, RdE w F a m c es ∧ m ≤ 12 ∧ es.length = l.length ∧ ∀ (j : Nat) (e : El) (t : RT), es[j]? = some e → l[j]? = some t → e.k = t.k ∧ e.s = t.s ∧ e.n = t.n ∧ Hd w F d e.a e.m e.c t.l
/-- The fields are those of the tree t. -/
structure Vl (w : World) (F : Nat → Prop) (d : Nat) (e : El) (t : RT) : Prop where
  k : e.k = t.k
  s : e.s = t.s
  n : e.n = t.n
  l : Hd w F d e.a e.m e.c t.l
/-- A row of them. -/
structure Vls (w : World) (F : Nat → Prop) (d : Nat) (es : List El) (l : List RT) : Prop where
  len : es.length = l.length
  el : ∀ (j : Nat) (e : El) (t : RT), es[j]? = some e → l[j]? = some t → Vl w F d e t
theorem Hd.ex {w : World} {F : Nat → Prop} {d : Nat} {a : Option Addr} {m c : Nat} {l : List RT} (h : Hd w F (d + 1) a m c l) : ∃ es, RdE w F a m c es ∧ m ≤ 12 ∧ Vls w F d es l := by
  obtain ⟨es, h1, h2, h3, h4⟩ := h
  exact ⟨es, h1, h2, h3, fun j e t he ht => by obtain ⟨a, b, c, d⟩ := h4 j e t he ht; exact ⟨a, b, c, d⟩⟩
theorem Hd.of {w : World} {F : Nat → Prop} {d : Nat} {a : Option Addr} {m c : Nat} {l : List RT} {es : List El} (h1 : RdE w F a m c es) (h2 : m ≤ 12) (h3 : Vls w F d es l) : Hd w F (d + 1) a m c l :=
  ⟨es, h1, h2, h3.len, fun j e t he ht => by have := h3.el j e t he ht; exact ⟨this.k, this.s, this.n, this.l⟩⟩
theorem Hd.nil (w : World) (F : Nat → Prop) (d : Nat) : Hd w F d none 0 0 [] := by
  cases d with
  | zero => exact ⟨rfl, RdE.nil w F⟩
  | succ d => exact ⟨[], RdE.nil w F, by omega, rfl, fun j e t h => by simp at h⟩
theorem Hd.rd {w : World} {F : Nat → Prop} {d : Nat} {a : Option Addr} {m c : Nat} {l : List RT} (h : Hd w F d a m c l) : ∃ es, RdE w F a m c es ∧ m ≤ 12 ∧ es.length = l.length := by
  cases d with
  | zero => obtain ⟨rfl, h⟩ := h; exact ⟨[], h, by rw [← h.len]; simp, rfl⟩
  | succ d => obtain ⟨es, h1, h2, h3, -⟩ := h; exact ⟨es, h1, h2, h3⟩
theorem Hd.len {w : World} {F : Nat → Prop} {d : Nat} {a : Option Addr} {m c : Nat} {l : List RT} (h : Hd w F d a m c l) : l.length = m ∧ m ≤ 12 := by
  obtain ⟨es, h1, h2, h3⟩ := h.rd
  exact ⟨by rw [← h3]; exact h1.len, h2⟩
theorem Hd.mono {w : World} {F G : Nat → Prop} (hF : ∀ g, g < w.heap.size → F g → G g) : ∀ (d : Nat) {a : Option Addr} {m c : Nat} {l : List RT}, Hd w F d a m c l → Hd w G d a m c l
  | 0, _, _, _, _, ⟨h1, h2⟩ => ⟨h1, h2.mono hF⟩
  | d + 1, _, _, _, _, ⟨es, h1, h2, h3, h4⟩ => ⟨es, h1.mono hF, h2, h3, fun j e t he ht => by
    obtain ⟨k1, k2, k3, k4⟩ := h4 j e t he ht
    exact ⟨k1, k2, k3, k4.mono hF d⟩⟩
theorem Hd.keep {w w' : World} {F : Nat → Prop} (hF : ∀ g, g < w.heap.size → F g → w'.heap[g]? = w.heap[g]?) : ∀ (d : Nat) {a : Option Addr} {m c : Nat} {l : List RT}, Hd w F d a m c l → Hd w' F d a m c l
  | 0, _, _, _, _, ⟨h1, h2⟩ => ⟨h1, h2.keep hF⟩
  | d + 1, _, _, _, _, ⟨es, h1, h2, h3, h4⟩ => ⟨es, h1.keep hF, h2, h3, fun j e t he ht => by
    obtain ⟨k1, k2, k3, k4⟩ := h4 j e t he ht
    exact ⟨k1, k2, k3, k4.keep hF d⟩⟩
theorem Hd.up {w : World} {F : Nat → Prop} : ∀ (d : Nat) {a : Option Addr} {m c : Nat} {l : List RT}, Hd w F d a m c l → Hd w F (d + 1) a m c l
  | 0, _, _, _, _, ⟨h1, h2⟩ => by
    subst h1
    exact ⟨[], h2, by rw [← h2.len]; simp, rfl, fun j e t h => by simp at h⟩
  | d + 1, _, _, _, _, ⟨es, h1, h2, h3, h4⟩ => ⟨es, h1, h2, h3, fun j e t he ht => by
    obtain ⟨k1, k2, k3, k4⟩ := h4 j e t he ht
    exact ⟨k1, k2, k3, k4.up d⟩⟩
theorem Hd.le {w : World} {F : Nat → Prop} {d d' : Nat} (h : d ≤ d') {a : Option Addr} {m c : Nat} {l : List RT} (hh : Hd w F d a m c l) : Hd w F d' a m c l := by
  induction h with
  | refl => exact hh
  | step _ ih => exact ih.up _
theorem Vl.mono {w : World} {F G : Nat → Prop} {d : Nat} {e : El} {t : RT} (h : Vl w F d e t) (hF : ∀ g, g < w.heap.size → F g → G g) : Vl w G d e t := ⟨h.k, h.s, h.n, h.l.mono hF d⟩
theorem Vl.keep {w w' : World} {F : Nat → Prop} {d : Nat} {e : El} {t : RT} (h : Vl w F d e t) (hF : ∀ g, g < w.heap.size → F g → w'.heap[g]? = w.heap[g]?) : Vl w' F d e t := ⟨h.k, h.s, h.n, h.l.keep hF d⟩
theorem Vl.le {w : World} {F : Nat → Prop} {d d' : Nat} {e : El} {t : RT} (h : Vl w F d e t) (hd : d ≤ d') : Vl w F d' e t := ⟨h.k, h.s, h.n, h.l.le hd⟩
theorem Vls.mono {w : World} {F G : Nat → Prop} {d : Nat} {es : List El} {l : List RT} (h : Vls w F d es l) (hF : ∀ g, g < w.heap.size → F g → G g) : Vls w G d es l := ⟨h.len, fun j e t he ht => (h.el j e t he ht).mono hF⟩
theorem Vls.keep {w w' : World} {F : Nat → Prop} {d : Nat} {es : List El} {l : List RT} (h : Vls w F d es l) (hF : ∀ g, g < w.heap.size → F g → w'.heap[g]? = w.heap[g]?) : Vls w' F d es l := ⟨h.len, fun j e t he ht => (h.el j e t he ht).keep hF⟩
theorem Vls.nil (w : World) (F : Nat → Prop) (d : Nat) : Vls w F d [] [] := ⟨rfl, fun j e t h => by simp at h⟩
theorem Vls.append {w : World} {F : Nat → Prop} {d : Nat} {es es' : List El} {l l' : List RT} (h : Vls w F d es l) (h' : Vls w F d es' l') : Vls w F d (es ++ es') (l ++ l') := by
  refine ⟨by rw [List.length_append, List.length_append, h.len, h'.len], fun j e t he ht => ?_⟩
  by_cases hj : j < es.length
  · rw [List.getElem?_append_left hj] at he
    rw [List.getElem?_append_left (by rw [← h.len]; exact hj)] at ht
    exact h.el j e t he ht
  · rw [List.getElem?_append_right (by omega)] at he
    rw [List.getElem?_append_right (by rw [← h.len]; omega), ← h.len] at ht
    exact h'.el _ e t he ht
theorem Vls.one {w : World} {F : Nat → Prop} {d : Nat} {e : El} {t : RT} (h : Vl w F d e t) : Vls w F d [e] [t] := ⟨rfl, fun j e' t' he ht => by
  cases j with
  | zero => simp at he ht; subst he ht; exact h
  | succ j => simp at he⟩
theorem Vls.set {w : World} {F : Nat → Prop} {d : Nat} {es : List El} {l : List RT} {e : El} {t : RT} (h : Vls w F d es l) (j : Nat) (ht : Vl w F d e t) : Vls w F d (es.set j e) (l.set j t) := by
  refine ⟨by simp [h.len], fun i e' t' he ht' => ?_⟩
  by_cases hij : j = i
  · subst hij
    rw [List.getElem?_set_self'] at he ht'
    cases h1 : es[j]? with
    | none => rw [h1] at he; simp at he
    | some x =>
      cases h2 : l[j]? with
      | none => rw [h2] at ht'; simp at ht'
      | some y =>
        rw [h1] at he; rw [h2] at ht'
        simp at he ht'; subst he ht'; exact ht
  · rw [List.getElem?_set_ne hij] at he ht'
    exact h.el i e' t' he ht'
theorem Vls.get {w : World} {F : Nat → Prop} {d : Nat} {es : List El} {l : List RT} (h : Vls w F d es l) {j : Nat} (hj : j < es.length) : ∃ e t, es[j]? = some e ∧ l[j]? = some t ∧ Vl w F d e t := by
  have h2 : j < l.length := by rw [← h.len]; exact hj
  exact ⟨es[j], l[j], List.getElem?_eq_getElem hj, List.getElem?_eq_getElem h2, h.el j _ _ (List.getElem?_eq_getElem hj) (List.getElem?_eq_getElem h2)⟩
/-- A reply that may be read. -/
abbrev VL (w : World) (d : Nat) (e : El) (t : RT) : Prop := Vl w (fun g => g < w.heap.size) d e t
theorem Vl.lo {w : World} {F : Nat → Prop} {d : Nat} {e : El} {t : RT} (h : Vl w F d e t) : VL w d e t := h.mono fun _ h _ => h
theorem VL.kp {w w' : World} {d : Nat} {e : El} {t : RT} (h : VL w d e t) (hb : Below w.heap.size w w') : VL w' d e t := Vl.lo (Vl.keep h fun g hg _ => hb.block g hg)
theorem Vl.kp {w w' : World} {F : Nat → Prop} {d : Nat} {e : El} {t : RT} (h : Vl w F d e t) (hb : Below w.heap.size w w') : Vl w' F d e t := Vl.keep h fun g hg _ => hb.block g hg
theorem Vls.kp {w w' : World} {F : Nat → Prop} {d : Nat} {es : List El} {l : List RT} (h : Vls w F d es l) (hb : Below w.heap.size w w') : Vls w' F d es l := Vls.keep h fun g hg _ => hb.block g hg
/-- One without parts. -/
theorem Vl.leaf (w : World) (F : Nat → Prop) (d : Nat) (k : Int) (s : ByteArray) (n : Int) : Vl w F d ⟨k, s, n, none, 0, 0⟩ (.mk k s n []) := ⟨rfl, rfl, rfl, Hd.nil w F d⟩
/-- With what counts alone. -/
def El.mean (e : El) : El := ⟨e.k, if hasS e.k then e.s else ⟨#[]⟩, if hasN e.k then e.n else 0, if hasL e.k then e.a else none, if hasL e.k then e.m else 0, if hasL e.k then e.c else 0⟩
theorem Vl.mean {w : World} {F : Nat → Prop} {d : Nat} {e : El} {t : RT} (h : Vl w F d e t) : Vl w F d e.mean (mean t.k t.s t.n t.l) := by
  have hk := h.k
  refine ⟨hk, ?_, ?_, ?_⟩
  · show (if hasS e.k then e.s else _) = if hasS t.k then t.s else _
    rw [hk, h.s]
  · show (if hasN e.k then e.n else _) = if hasN t.k then t.n else _
    rw [hk, h.n]
  · show Hd w F d (if hasL e.k then e.a else none) (if hasL e.k then e.m else 0) (if hasL e.k then e.c else 0) (if hasL t.k then t.l else [])
    rw [hk]
    cases hasL t.k
    · exact Hd.nil w F d
    · exact h.l
end Go.Proofs.YtiamgnfbgiognaaGreatDoor
