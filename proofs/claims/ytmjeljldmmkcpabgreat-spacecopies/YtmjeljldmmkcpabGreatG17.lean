/- Texts that the others stand on. -/
import Derived.Test.YtmjeljldmmkcpabGreatProg
import Derived.Test.YtmjeljldmmkcpabGreatG5
namespace Go.Proofs.YtmjeljldmmkcpabGreat.Sq
/-- Who stands at a place. -/
def at' (Q : List Nat) (i : Nat) : Nat := Q.getD i 0
theorem at_set (Q : List Nat) (h x i : Nat) : at' (Q.set h x) i = if i = h ∧ h < Q.length then x else at' Q i := by
  unfold at'
  rw [List.getD_eq_getElem?_getD, List.getD_eq_getElem?_getD, List.getElem?_set]
  by_cases h1 : h = i
  · subst h1
    by_cases h2 : h < Q.length
    · simp [h2]
    · simp [h2]
  · rw [if_neg h1, if_neg (fun e => h1 e.1.symm)]
theorem at_ne {Q : List Nat} {h x i : Nat} (hn : i ≠ h) : at' (Q.set h x) i = at' Q i := by rw [at_set, if_neg (fun e => hn e.1)]
theorem at_eq {Q : List Nat} {h x i : Nat} (hi : i = h) (hl : h < Q.length) : at' (Q.set h x) i = x := by rw [at_set, if_pos ⟨hi, hl⟩]
theorem at_mem {Q : List Nat} {i : Nat} (h : i < Q.length) : at' Q i ∈ Q := by
  unfold at'
  rw [List.getD_eq_getElem?_getD, List.getElem?_eq_getElem h]
  exact List.getElem_mem h
theorem at_ex {Q : List Nat} {p : Nat} (h : p ∈ Q) : ∃ i, i < Q.length ∧ at' Q i = p := by
  obtain ⟨i, hi, e⟩ := List.mem_iff_getElem.1 h
  refine ⟨i, hi, ?_⟩
  unfold at'
  rw [List.getD_eq_getElem?_getD, List.getElem?_eq_getElem hi]
  exact e
theorem at_some {Q : List Nat} {i : Nat} (h : i < Q.length) : Q[i]? = some (at' Q i) := by
  unfold at'
  rw [List.getD_eq_getElem?_getD, List.getElem?_eq_getElem h]
  rfl
/-- Two places that change what they have. -/
theorem swap_perm (Q : List Nat) (h a x : Nat) (hh : h < Q.length) (ha : a < Q.length) (hne : a ≠ h) : ((Q.set h (at' Q a)).set a x).Perm (Q.set h x) := by
  rw [List.perm_iff_count]
  intro b
  have e1 : (Q.set h (at' Q a))[a]'(by rw [List.length_set]; exact ha) = at' Q a := by
    rw [List.getElem_set_ne (Ne.symm hne)]
    unfold at'
    rw [List.getD_eq_getElem?_getD, List.getElem?_eq_getElem ha]
    rfl
  rw [List.count_set (by rw [List.length_set]; exact ha), List.count_set hh, List.count_set hh, e1]
  have : (if at' Q a == b then 1 else 0) ≤ List.count b Q := by
    split
    · rename_i h1
      rw [beq_iff_eq] at h1
      have := at_mem ha
      rw [h1] at this
      exact List.count_pos_iff.2 this
    · omega
  omega
/-- All is in order but for a place that is free. -/
structure Gap (U : Nat → Int) (Q : List Nat) (h : Nat) : Prop where
  ord : ∀ i, 0 < i → i < Q.length → i ≠ h → (i - 1) / 2 ≠ h → U (at' Q ((i - 1) / 2)) ≤ U (at' Q i)
  gap : ∀ i, 0 < h → 0 < i → i < Q.length → (i - 1) / 2 = h → U (at' Q ((h - 1) / 2)) ≤ U (at' Q i)
/-- All is in order. -/
def Ord (U : Nat → Int) (Q : List Nat) : Prop := ∀ i, 0 < i → i < Q.length → U (at' Q ((i - 1) / 2)) ≤ U (at' Q i)
theorem Ord.least {U : Nat → Int} {Q : List Nat} (h : Ord U Q) : ∀ i, i < Q.length → U (at' Q 0) ≤ U (at' Q i) := by
  intro i
  induction i using Nat.strongRecOn with
  | ind i ih =>
    intro hi
    by_cases h0 : i = 0
    · subst h0; exact Int.le_refl _
    · exact Int.le_trans (ih ((i - 1) / 2) (by omega) (by omega)) (h i (by omega) hi)
theorem Ord.gapAt {U : Nat → Int} {Q : List Nat} (h : Ord U Q) (g : Nat) (hg : g < Q.length) : Gap U Q g := by
  refine ⟨fun i h0 hi _ _ => h i h0 hi, fun i hg0 h0 hi hp => ?_⟩
  have h1 := h i h0 hi
  rw [hp] at h1
  exact Int.le_trans (h g hg0 hg) h1
theorem Ord.cut {U : Nat → Int} {Q : List Nat} {x : Nat} (h : Ord U (Q ++ [x])) : Ord U Q := by
  intro i h0 hi
  have h1 := h i h0 (by rw [List.length_append]; simp; omega)
  have e : ∀ j, j < Q.length → at' (Q ++ [x]) j = at' Q j := fun j hj => by
    unfold at'
    rw [List.getD_eq_getElem?_getD, List.getD_eq_getElem?_getD, List.getElem?_append_left hj]
  rw [e _ (by omega), e _ hi] at h1
  exact h1
theorem Ord.more {U : Nat → Int} {Q : List Nat} (x : Nat) (h : Ord U Q) : Gap U (Q ++ [x]) Q.length := by
  have e : ∀ j, j < Q.length → at' (Q ++ [x]) j = at' Q j := fun j hj => by
    unfold at'
    rw [List.getD_eq_getElem?_getD, List.getD_eq_getElem?_getD, List.getElem?_append_left hj]
  refine ⟨fun i h0 hi hn hp => ?_, fun i _ _ hi hp => ?_⟩
  · rw [List.length_append] at hi
    simp at hi
    rw [e _ (by omega), e _ (by omega)]
    exact h i h0 (by omega)
  · rw [List.length_append] at hi
    simp at hi
    omega
/-- What stands ahead of the free place is moved into it. -/
theorem Gap.up {U : Nat → Int} {Q : List Nat} {h : Nat} (g : Gap U Q h) (h0 : 0 < h) (hl : h < Q.length) : Gap U (Q.set h (at' Q ((h - 1) / 2))) ((h - 1) / 2) := by
  refine ⟨fun i i0 hi hn hp => ?_, fun i a0 i0 hi hp => ?_⟩
  · rw [List.length_set] at hi
    have h1 : i ≠ h := fun e => hp (by rw [e])
    rw [at_ne h1]
    by_cases h2 : (i - 1) / 2 = h
    · rw [at_eq h2 hl]
      exact g.gap i h0 i0 hi h2
    · rw [at_ne h2]
      exact g.ord i i0 hi h1 h2
  · rw [List.length_set] at hi
    rw [at_ne (show ((h - 1) / 2 - 1) / 2 ≠ h by omega)]
    have h3 := g.ord ((h - 1) / 2) a0 (by omega) (by omega) (by omega)
    by_cases h1 : i = h
    · rw [at_eq h1 hl]; exact h3
    · rw [at_ne h1]
      have h4 := g.ord i i0 hi h1 (by omega)
      rw [hp] at h4
      exact Int.le_trans h3 h4
/-- What is behind the free place comes no sooner than what was moved into it. -/
theorem Gap.behind {U : Nat → Int} {Q : List Nat} {h x : Nat} (g : Gap U Q h) (h0 : 0 < h) (hl : h < Q.length) (hx : U x ≤ U (at' Q ((h - 1) / 2))) : ∀ i, 0 < i → i < (Q.set h (at' Q ((h - 1) / 2))).length → (i - 1) / 2 = (h - 1) / 2 → U x ≤ U (at' (Q.set h (at' Q ((h - 1) / 2))) i) := by
  intro i i0 hi hp
  rw [List.length_set] at hi
  by_cases h1 : i = h
  · rw [at_eq h1 hl]; exact hx
  · rw [at_ne h1]
    have h4 := g.ord i i0 hi h1 (by omega)
    rw [hp] at h4
    exact Int.le_trans hx h4
/-- It is laid into the free place: it comes no sooner than what is ahead. -/
theorem Gap.lay {U : Nat → Int} {Q : List Nat} {h x : Nat} (g : Gap U Q h) (hx : 0 < h → U (at' Q ((h - 1) / 2)) ≤ U x) : Gap U (Q.set h x) h ∧ (0 < h → U (at' (Q.set h x) ((h - 1) / 2)) ≤ U x) := by
  refine ⟨⟨fun i i0 hi hn hp => ?_, fun i h0 i0 hi hp => ?_⟩, fun h0 => ?_⟩
  · rw [List.length_set] at hi
    rw [at_ne hn, at_ne hp]
    exact g.ord i i0 hi hn hp
  · rw [List.length_set] at hi
    rw [at_ne (show (h - 1) / 2 ≠ h by omega), at_ne (show i ≠ h by omega)]
    exact g.gap i h0 i0 hi hp
  · rw [at_ne (show (h - 1) / 2 ≠ h by omega)]
    exact hx h0
/-- It is laid, and comes no later than what is behind. -/
theorem Gap.done {U : Nat → Int} {Q : List Nat} {h x : Nat} (g : Gap U Q h) (hl : h < Q.length) (hx : 0 < h → U (at' Q ((h - 1) / 2)) ≤ U x) (hc : ∀ i, 0 < i → i < Q.length → (i - 1) / 2 = h → U x ≤ U (at' Q i)) : Ord U (Q.set h x) := by
  intro i i0 hi
  rw [List.length_set] at hi
  by_cases h1 : i = h
  · rw [at_eq h1 hl, at_ne (show (i - 1) / 2 ≠ h by omega), h1]
    exact hx (by omega)
  · rw [at_ne h1]
    by_cases h2 : (i - 1) / 2 = h
    · rw [at_eq h2 hl]
      exact hc i i0 hi h2
    · rw [at_ne h2]
      exact g.ord i i0 hi h1 h2
/-- The sooner one of those behind is moved into the free place. -/
theorem Gap.down {U : Nat → Int} {Q : List Nat} {h c x : Nat} (g : Gap U Q h) (c0 : 0 < c) (cl : c < Q.length) (hp : (c - 1) / 2 = h) (hm : ∀ i, 0 < i → i < Q.length → (i - 1) / 2 = h → U (at' Q c) ≤ U (at' Q i)) (hx : U (at' Q c) ≤ U x) :
    Gap U (Q.set h (at' Q c)) c ∧ (0 < c → U (at' (Q.set h (at' Q c)) ((c - 1) / 2)) ≤ U x) := by
  have hl : h < Q.length := by omega
  refine ⟨⟨fun i i0 hi hn hq => ?_, fun i _ i0 hi hq => ?_⟩, fun _ => ?_⟩
  · rw [List.length_set] at hi
    by_cases h1 : i = h
    · rw [at_eq h1 hl, at_ne (show (i - 1) / 2 ≠ h by omega), h1]
      exact g.gap c (by omega) c0 cl hp
    · rw [at_ne h1]
      by_cases h2 : (i - 1) / 2 = h
      · rw [at_eq h2 hl]
        exact hm i i0 hi h2
      · rw [at_ne h2]
        exact g.ord i i0 hi h1 h2
  · rw [List.length_set] at hi
    rw [at_eq hp hl, at_ne (show i ≠ h by omega)]
    have := g.ord i i0 hi (by omega) (by omega)
    rw [hq] at this
    exact this
  · rw [at_eq hp hl]
    exact hx
/-- What is at a place is other than all that is at other places, if each knows its place. -/
def Plcs (P : Nat → Int) (Q : List Nat) : Prop := ∀ i, i < Q.length → P (at' Q i) = i
theorem Plcs.inj {P : Nat → Int} {Q : List Nat} (h : Plcs P Q) {i j : Nat} (hi : i < Q.length) (hj : j < Q.length) (e : at' Q i = at' Q j) : i = j := by
  have h1 := h i hi
  have h2 := h j hj
  rw [e, h2] at h1
  omega
theorem mem_set {Q : List Nat} {h x p : Nat} (hl : h < Q.length) (hn : p ∈ Q.set h x) : p = x ∨ ∃ i, i < Q.length ∧ i ≠ h ∧ at' Q i = p := by
  obtain ⟨i, hi, e⟩ := at_ex hn
  rw [List.length_set] at hi
  rw [at_set] at e
  by_cases h1 : i = h ∧ h < Q.length
  · rw [if_pos h1] at e; exact .inl e.symm
  · rw [if_neg h1] at e; exact .inr ⟨i, hi, fun e2 => h1 ⟨e2, hl⟩, e⟩
end Go.Proofs.YtmjeljldmmkcpabGreat.Sq
namespace Go.Proofs.YtmjeljldmmkcpabGreat.Sq
open Go.RowKit Go.PlainAid
open Dk (ptr below_drewN alloc_below step_below add_flat OwnR OwnP OwnS Mv pcells Elt elt_of)
/-- What an item has, but for its place. -/
structure Itm where
  k : ByteArray
  v : Option Addr
  u : Int
abbrev icells (i : Itm) (p : Int) : Array Value := #[.string i.k, .pointer i.v, .int .i64 i.u, .int .i64 p]
/-- Items, each with what it has and its place. -/
def Its (w : World) (B : Nat) (L : List Nat) (I : Nat → Itm) (P : Nat → Int) : Prop := ∀ p ∈ L, B ≤ p ∧ w.heap[p]? = some (.cells (icells (I p) (P p)) 86 (0, 0))
def upd {α : Type} (f : Nat → α) (p : Nat) (x : α) : Nat → α := fun q => if q = p then x else f q
theorem upd_eq {α : Type} (f : Nat → α) (p : Nat) (x : α) : upd f p x p = x := if_pos rfl
theorem upd_ne {α : Type} (f : Nat → α) {p q : Nat} (x : α) (h : q ≠ p) : upd f p x q = f q := if_neg h
/-- What the space's block has, but for its queue. -/
structure Sd where
  x : Nat
  E : Int
  T : Int
  d : Nat
  v : Nat
abbrev scells (S : Sd) (q : Value) : Array Value := #[.int .u64 (S.x : Nat), .int .i64 S.E, .int .i64 S.T, ptr S.d, q, ptr S.v]
/-- The types of the blocks that the queue's calls turn. -/
def qtag (t : TypeId) : Bool := t == 63 || t == 86 || t == 56
/-- The queue's row, but for the place h. -/
structure Rq (w : World) (B g c : Nat) (Q : List Nat) (h : Nat) : Prop where
  ex : ∃ cur : Array Value, w.heap[g]? = some (.cells cur 56 (0, 0)) ∧ cur.size = c ∧ ∀ i, i < Q.length → i ≠ h → cur[i]? = some (ptr (at' Q i))
  le : Q.length ≤ c
  mx : c ≤ maxLen
  low : B ≤ g
/-- A queue with a free place. -/
structure Hs (w : World) (B s : Nat) (S : Sd) (g c : Nat) (L : List Nat) (I : Nat → Itm) (P : Nat → Int) (Q : List Nat) (h : Nat) : Prop where
  blk : w.heap[s]? = some (.cells (scells S (.slice (some ⟨g, 0, none⟩) Q.length c)) 63 (0, 0))
  row : Rq w B g c Q h
  its : Its w B L I P
  sub : ∀ i, i < Q.length → i ≠ h → at' Q i ∈ L
  plc : ∀ i, i < Q.length → i ≠ h → P (at' Q i) = i
  low : B ≤ s
  few : Q.length ≤ 1000000
theorem Its.kept {w w' : World} {B : Nat} {L : List Nat} {I : Nat → Itm} {P : Nat → Int} (h : Its w B L I P) (hb : ∀ p ∈ L, w'.heap[p]? = w.heap[p]?) : Its w' B L I P := fun p hp => ⟨(h p hp).1, by rw [hb p hp]; exact (h p hp).2⟩
theorem Its.lt {w : World} {B : Nat} {L : List Nat} {I : Nat → Itm} {P : Nat → Int} (h : Its w B L I P) {p : Nat} (hp : p ∈ L) : p < w.heap.size := (Array.getElem?_eq_some_iff.1 (h p hp).2).1
theorem Its.mv {w w' : World} {B : Nat} {L : List Nat} {I : Nat → Itm} {P : Nat → Int} {t : TypeId → Bool} (h : Its w B L I P) (hm : Mv t w w') (ht : t 86 = false) : Its w' B L I P := h.kept fun p hp => hm.block p _ _ (h p hp).2 ht
theorem Its.ck {w : World} {B : Nat} {L : List Nat} {I : Nat → Itm} {P : Nat → Int} (h : Its w B L I P) {p : Nat} (hp : p ∈ L) : w.cell? ⟨p, 0, none⟩ = some (.string (I p).k) := by simp [World.cell?, (h p hp).2]
theorem Its.cv {w : World} {B : Nat} {L : List Nat} {I : Nat → Itm} {P : Nat → Int} (h : Its w B L I P) {p : Nat} (hp : p ∈ L) : w.cell? ⟨p, 1, none⟩ = some (.pointer (I p).v) := by simp [World.cell?, (h p hp).2]
theorem Its.cu {w : World} {B : Nat} {L : List Nat} {I : Nat → Itm} {P : Nat → Int} (h : Its w B L I P) {p : Nat} (hp : p ∈ L) : w.cell? ⟨p, 2, none⟩ = some (.int .i64 (I p).u) := by simp [World.cell?, (h p hp).2]
theorem Its.cp {w : World} {B : Nat} {L : List Nat} {I : Nat → Itm} {P : Nat → Int} (h : Its w B L I P) {p : Nat} (hp : p ∈ L) : w.cell? ⟨p, 3, none⟩ = some (.int .i64 (P p)) := by simp [World.cell?, (h p hp).2]
theorem Its.fz {w : World} {B : Nat} {L : List Nat} {I : Nat → Itm} {P : Nat → Int} (h : Its w B L I P) {p : Nat} (hp : p ∈ L) (o : Nat) : w.frozen? ⟨p, o, none⟩ = false := by simp [World.frozen?, (h p hp).2]
theorem heap_set {w : World} {q o : Nat} {cs : Array Value} {t : TypeId} {v : Value} (h : w.heap[q]? = some (.cells cs t (0, 0))) : (w.setCell ⟨q, o, none⟩ v).heap[q]? = some (.cells (cs.setIfInBounds o v) t (0, 0)) := by
  simp [World.setCell, Array.getElem?_modify, h]
theorem heap_ne {w : World} {q o k : Nat} {v : Value} (h : k ≠ q) : (w.setCell ⟨q, o, none⟩ v).heap[k]? = w.heap[k]? := Below.heap_setCell _ _ _ _ h
theorem Mv.set {p : TypeId → Bool} {w : World} {q o : Nat} {v : Value} {cs : Array Value} {t : TypeId} (h : w.heap[q]? = some (.cells cs t (0, 0))) (ht : p t = true) : Mv p w (w.setCell ⟨q, o, none⟩ v) :=
  ⟨rfl, rfl, rfl, by simp [World.setCell], fun k cs' t' hk hp => heap_ne (fun e => by
    subst e
    rw [h] at hk
    injection hk with hk
    injection hk with _ e2
    rw [← e2, ht] at hp
    cases hp)⟩
/-- Blocks of some types may be turned, from B on, and there may be new ones. -/
structure Mb (p : TypeId → Bool) (B : Nat) (w w' : World) : Prop where
  mv : Mv p w w'
  be : Below B w w'
theorem Mb.of_below {p : TypeId → Bool} {B : Nat} {w w' : World} (h : Below w.heap.size w w') (hB : B ≤ w.heap.size) : Mb p B w w' := ⟨Mv.of_below h, ⟨h.os, h.tape, h.output, h.size, fun k hk => h.block k (Nat.lt_of_lt_of_le hk hB)⟩⟩
theorem Mb.refl (p : TypeId → Bool) (B : Nat) (w : World) : Mb p B w w := ⟨⟨rfl, rfl, rfl, Nat.le_refl _, fun _ _ _ _ _ => rfl⟩, ⟨rfl, rfl, rfl, Nat.le_refl _, fun _ _ => rfl⟩⟩
theorem Mb.trans {p : TypeId → Bool} {B : Nat} {w w1 w2 : World} (h : Mb p B w w1) (k : Mb p B w1 w2) : Mb p B w w2 :=
  ⟨h.mv.trans k.mv, ⟨k.be.os.trans h.be.os, k.be.tape.trans h.be.tape, k.be.output.trans h.be.output, Nat.le_trans h.be.size k.be.size, fun i hi => (k.be.block i hi).trans (h.be.block i hi)⟩⟩
theorem Mb.set {p : TypeId → Bool} {B : Nat} {w : World} {q o : Nat} {v : Value} {cs : Array Value} {t : TypeId} (h : w.heap[q]? = some (.cells cs t (0, 0))) (ht : p t = true) (hB : B ≤ q) : Mb p B w (w.setCell ⟨q, o, none⟩ v) :=
  ⟨Mv.set h ht, ⟨rfl, rfl, rfl, by simp [World.setCell], fun k hk => heap_ne (by omega)⟩⟩
theorem Mb.mono {p p' : TypeId → Bool} {B : Nat} {w w' : World} (h : Mb p B w w') (hp : ∀ t, p t = true → p' t = true) : Mb p' B w w' :=
  ⟨⟨h.mv.os, h.mv.tape, h.mv.output, h.mv.size, fun k cs t hk ht => h.mv.block k cs t hk (by
    cases e : p t with
    | false => rfl
    | true => rw [hp t e] at ht; cases ht)⟩, h.be⟩
theorem tag_ne {w : World} {p q : Nat} {cs ds : Array Value} {t u : TypeId} (h : w.heap[p]? = some (.cells cs t (0, 0))) (k : w.heap[q]? = some (.cells ds u (0, 0))) (hn : t ≠ u) : p ≠ q := by
  intro e
  subst e
  rw [h] at k
  injection k with k
  injection k with _ e2
  exact hn e2
/-- An item's place is turned. -/
theorem Its.place {w : World} {B : Nat} {L : List Nat} {I : Nat → Itm} {P : Nat → Int} (h : Its w B L I P) {q : Nat} (hq : q ∈ L) (n : Int) : Its (w.setCell ⟨q, 3, none⟩ (.int .i64 n)) B L I (upd P q n) := by
  intro p hp
  refine ⟨(h p hp).1, ?_⟩
  by_cases e : p = q
  · subst e
    rw [heap_set (h p hp).2, upd_eq]
    rfl
  · rw [heap_ne e, upd_ne P n e]
    exact (h p hp).2
/-- What it is held until is turned. -/
theorem Its.until {w : World} {B : Nat} {L : List Nat} {I : Nat → Itm} {P : Nat → Int} (h : Its w B L I P) {q : Nat} (hq : q ∈ L) (n : Int) : Its (w.setCell ⟨q, 2, none⟩ (.int .i64 n)) B L (upd I q { I q with u := n }) P := by
  intro p hp
  refine ⟨(h p hp).1, ?_⟩
  by_cases e : p = q
  · subst e
    rw [heap_set (h p hp).2, upd_eq]
    rfl
  · rw [heap_ne e, upd_ne I _ e]
    exact (h p hp).2
theorem Its.value {w : World} {B : Nat} {L : List Nat} {I : Nat → Itm} {P : Nat → Int} (h : Its w B L I P) {q : Nat} (hq : q ∈ L) (n : Option Addr) : Its (w.setCell ⟨q, 1, none⟩ (.pointer n)) B L (upd I q { I q with v := n }) P := by
  intro p hp
  refine ⟨(h p hp).1, ?_⟩
  by_cases e : p = q
  · subst e
    rw [heap_set (h p hp).2, upd_eq]
    rfl
  · rw [heap_ne e, upd_ne I _ e]
    exact (h p hp).2
section
variable {w : World} {B s : Nat} {S : Sd} {g c : Nat} {L : List Nat} {I : Nat → Itm} {P : Nat → Int} {Q : List Nat} {h : Nat}
theorem Hs.head (H : Hs w B s S g c L I P Q h) : w.cell? ⟨s, 4, none⟩ = some (.slice (some ⟨g, 0, none⟩) Q.length c) := by simp [World.cell?, H.blk]
theorem Hs.cell (H : Hs w B s S g c L I P Q h) {i : Nat} (hi : i < Q.length) (hn : i ≠ h) : w.cell? ⟨g, i, none⟩ = some (ptr (at' Q i)) := by
  obtain ⟨cur, h1, h2, h3⟩ := H.row.ex
  simp only [World.cell?, h1]
  exact h3 i hi hn
theorem Hs.any (H : Hs w B s S g c L I P Q h) {i : Nat} (hi : i < Q.length) : ∃ v, w.cell? ⟨g, i, none⟩ = some v := by
  obtain ⟨cur, h1, h2, h3⟩ := H.row.ex
  have hl : i < cur.size := by have := H.row.le; omega
  exact ⟨cur[i], by simp [World.cell?, h1, hl]⟩
theorem Hs.fz (H : Hs w B s S g c L I P Q h) (i : Nat) : w.frozen? ⟨g, i, none⟩ = false := by
  obtain ⟨cur, h1, h2, h3⟩ := H.row.ex
  simp [World.frozen?, h1]
/-- An item is laid into the free place; another place is free then. -/
theorem Hs.lay (H : Hs w B s S g c L I P Q h) {q : Nat} (hq : q ∈ L) (hh : h < Q.length) (h2 : Nat) (hne : ∀ i, i < Q.length → i ≠ h → i ≠ h2 → at' Q i ≠ q) :
    Hs ((w.setCell ⟨g, h, none⟩ (ptr q)).setCell ⟨q, 3, none⟩ (.int .i64 h)) B s S g c L I (upd P q h) (Q.set h q) h2 ∧ Mb qtag B w ((w.setCell ⟨g, h, none⟩ (ptr q)).setCell ⟨q, 3, none⟩ (.int .i64 h)) := by
  obtain ⟨cur, k1, k2, k3⟩ := H.row.ex
  have hI := H.its q hq
  have hgq : g ≠ q := tag_ne k1 hI.2 (by decide)
  have hsg : s ≠ g := tag_ne H.blk k1 (by decide)
  have hsq : s ≠ q := tag_ne H.blk hI.2 (by decide)
  have n1 : (w.setCell ⟨g, h, none⟩ (ptr q)).heap[q]? = some (.cells (icells (I q) (P q)) 86 (0, 0)) := by rw [heap_ne (Ne.symm hgq)]; exact hI.2
  refine ⟨⟨?_, ⟨⟨cur.setIfInBounds h (ptr q), ?_, by rw [Array.size_setIfInBounds]; exact k2, ?_⟩, by rw [List.length_set]; exact H.row.le, H.row.mx, H.row.low⟩, ?_, ?_, ?_, H.low, by rw [List.length_set]; exact H.few⟩, ?_⟩
  · rw [heap_ne hsq, heap_ne hsg, List.length_set]; exact H.blk
  · rw [heap_ne hgq, heap_set k1]
  · intro i hi hn
    rw [List.length_set] at hi
    have hc : h < cur.size := by have := H.row.le; omega
    by_cases e : i = h
    · subst e
      rw [at_eq rfl hh]
      simp [hc]
    · rw [at_ne e, Array.getElem?_setIfInBounds_ne (Ne.symm e)]
      exact k3 i hi e
  · refine Its.place (fun p hp => ⟨(H.its p hp).1, ?_⟩) hq h
    rw [heap_ne (Ne.symm (tag_ne k1 (H.its p hp).2 (by decide)))]
    exact (H.its p hp).2
  · intro i hi hn
    rw [List.length_set] at hi
    by_cases e : i = h
    · rw [at_eq e hh]; exact hq
    · rw [at_ne e]; exact H.sub i hi e
  · intro i hi hn
    rw [List.length_set] at hi
    by_cases e : i = h
    · rw [at_eq e hh, upd_eq, e]
    · rw [at_ne e, upd_ne P _ (hne i hi e hn)]; exact H.plc i hi e
  · exact (Mb.set (p := qtag) k1 (by decide) H.row.low).trans (Mb.set (p := qtag) n1 (by decide) hI.1)
end
abbrev un (I : Nat → Itm) : Nat → Int := fun p => (I p).u
/-- On the way: an item is held beside the queue, whose place h is free; h0 was. -/
structure Way (w0 w : World) (B s : Nat) (S : Sd) (g c : Nat) (L : List Nat) (I : Nat → Itm) (P0 : Nat → Int) (Q0 : List Nat) (h0 it : Nat) (P : Nat → Int) (Q : List Nat) (h : Nat) : Prop where
  hs : Hs w B s S g c L I P Q h
  gap : Gap (un I) Q h
  lt : h < Q.length
  new : ∀ i, i < Q.length → i ≠ h → at' Q i ≠ it
  perm : (Q.set h it).Perm (Q0.set h0 it)
  out : ∀ q, q ∉ Q0.set h0 it → P q = P0 q
  mv : Mb qtag B w0 w
/-- At its end. -/
structure Fin (w0 w : World) (B s : Nat) (S : Sd) (g c : Nat) (L : List Nat) (I : Nat → Itm) (P0 : Nat → Int) (Q0 : List Nat) (h0 it : Nat) (P : Nat → Int) (Q : List Nat) : Prop where
  hs : Hs w B s S g c L I P Q Q.length
  perm : Q.Perm (Q0.set h0 it)
  out : ∀ q, q ∉ Q0.set h0 it → P q = P0 q
  mv : Mb qtag B w0 w
def kids (I : Nat → Itm) (Q : List Nat) (h it : Nat) : Prop := ∀ i, 0 < i → i < Q.length → (i - 1) / 2 = h → un I it ≤ un I (at' Q i)
def ahead (I : Nat → Itm) (Q : List Nat) (h it : Nat) : Prop := 0 < h → un I (at' Q ((h - 1) / 2)) ≤ un I it
section
variable {w0 w : World} {B s : Nat} {S : Sd} {g c : Nat} {L : List Nat} {I : Nat → Itm} {P0 : Nat → Int} {Q0 : List Nat} {h0 it : Nat} {P : Nat → Int} {Q : List Nat} {h : Nat}
theorem Way.len (W : Way w0 w B s S g c L I P0 Q0 h0 it P Q h) : Q.length = Q0.length := by
  have := W.perm.length_eq
  rwa [List.length_set, List.length_set] at this
/-- One who stands at another place fills the gap. -/
theorem Way.fill (W : Way w0 w B s S g c L I P0 Q0 h0 it P Q h) {a : Nat} (ha : a < Q.length) (hne : a ≠ h) {w' : World} (hw : w' = (w.setCell ⟨g, h, none⟩ (ptr (at' Q a))).setCell ⟨at' Q a, 3, none⟩ (.int .i64 h)) (hg : Gap (un I) (Q.set h (at' Q a)) a) :
    Way w0 w' B s S g c L I P0 Q0 h0 it (upd P (at' Q a) h) (Q.set h (at' Q a)) a := by
  have hin := W.hs.sub a ha hne
  obtain ⟨k1, k2⟩ := W.hs.lay hin W.lt a (fun i hi h1 h2 e => h2 (by
    have e1 := W.hs.plc i hi h1
    have e2 := W.hs.plc a ha hne
    rw [e, e2] at e1
    omega))
  rw [← hw] at k1 k2
  refine ⟨k1, hg, by rw [List.length_set]; exact ha, ?_, (swap_perm Q h a it W.lt ha hne).trans W.perm, ?_, W.mv.trans k2⟩
  · intro i hi hn
    rw [List.length_set] at hi
    by_cases e : i = h
    · rw [at_eq e W.lt]; exact W.new a ha hne
    · rw [at_ne e]; exact W.new i hi e
  · intro q hq
    rw [upd_ne]
    · exact W.out q hq
    · intro e
      apply hq
      rw [e]
      refine W.perm.mem_iff.1 ?_
      have := at_mem (Q := Q.set h it) (i := a) (by rw [List.length_set]; exact ha)
      rw [at_ne hne] at this
      exact this
/-- It is laid. -/
theorem Way.lay (W : Way w0 w B s S g c L I P0 Q0 h0 it P Q h) (hit : it ∈ L) {w' : World} (hw : w' = (w.setCell ⟨g, h, none⟩ (ptr it)).setCell ⟨it, 3, none⟩ (.int .i64 h)) :
    Fin w0 w' B s S g c L I P0 Q0 h0 it (upd P it h) (Q.set h it) := by
  obtain ⟨k1, k2⟩ := W.hs.lay hit W.lt (Q.set h it).length (fun i hi h1 _ => W.new i hi h1)
  rw [← hw] at k1 k2
  refine ⟨k1, W.perm, ?_, W.mv.trans k2⟩
  intro q hq
  rw [upd_ne]
  · exact W.out q hq
  · intro e
    apply hq
    rw [e]
    refine W.perm.mem_iff.1 ?_
    have := at_mem (Q := Q.set h it) (i := h) (by rw [List.length_set]; exact W.lt)
    rw [at_eq rfl W.lt] at this
    exact this
theorem Fin.ofWay {Q1 : List Nat} {P1 : Nat → Int} {h1 : Nat} (W : Fin w0 w B s S g c L I P0 Q0 h0 it P Q) {w1 : World} (F : Fin w w1 B s S g c L I P Q h1 it P1 Q1) (he : Q.set h1 it = Q) : Fin w0 w1 B s S g c L I P0 Q0 h0 it P1 Q1 := by
  have hp := F.perm
  have ho := F.out
  rw [he] at hp ho
  exact ⟨F.hs, hp.trans W.perm, fun q hq => (ho q (fun hm => hq (W.perm.mem_iff.1 hm))).trans (W.out q hq), W.mv.trans F.mv⟩
end
/-- A queue: its items, those of them that stand in it. -/
structure Qs (w : World) (B s : Nat) (S : Sd) (L : List Nat) (I : Nat → Itm) (P : Nat → Int) (Q : List Nat) : Prop where
  ex : ∃ a c, w.heap[s]? = some (.cells (scells S (.slice a Q.length c)) 63 (0, 0)) ∧ OwnP w B 56 a Q.length c Q
  its : Its w B L I P
  sub : ∀ p ∈ Q, p ∈ L
  plc : Plcs P Q
  ord : Ord (un I) Q
  out : ∀ p ∈ L, p ∉ Q → P p = -1
  nod : L.Nodup
  low : B ≤ s
  few : L.length ≤ 1000000
theorem len_sub {Q L : List Nat} (hn : Q.Nodup) (hs : ∀ p ∈ Q, p ∈ L) : Q.length ≤ L.length := by
  induction Q generalizing L with
  | nil => exact Nat.zero_le _
  | cons q Q ih =>
    rw [List.nodup_cons] at hn
    have h1 : ∀ p ∈ Q, p ∈ L.erase q := fun p hp => (List.mem_erase_of_ne (fun e => hn.1 (by rw [← e]; exact hp))).2 (hs p (List.mem_cons_of_mem _ hp))
    have h2 := ih hn.2 h1
    have h3 := List.length_erase_of_mem (hs q (by simp))
    have h4 : 0 < L.length := List.length_pos_of_mem (hs q (by simp))
    rw [List.length_cons]
    omega
theorem Plcs.nod {P : Nat → Int} {Q : List Nat} (h : Plcs P Q) : Q.Nodup := by
  unfold List.Nodup
  rw [List.pairwise_iff_getElem]
  intro i j hi hj hij e
  have h1 := at_some hi
  have h2 := at_some hj
  rw [List.getElem?_eq_getElem hi] at h1
  rw [List.getElem?_eq_getElem hj] at h2
  injection h1 with h1
  injection h2 with h2
  have := h.inj hi hj (by rw [← h1, ← h2]; exact e)
  omega
theorem Rq.own {w : World} {B g c : Nat} {Q : List Nat} (h : Rq w B g c Q Q.length) : OwnP w B 56 (some ⟨g, 0, none⟩) Q.length c Q := by
  obtain ⟨cur, k1, k2, k3⟩ := h.ex
  have hl := h.le
  refine ⟨by simp [pcells], .inr ⟨g, c, cur, rfl, h.low, k1, h.le, h.mx, by omega, ?_⟩⟩
  rw [Nat.mul_one]
  apply List.ext_getElem?
  intro i
  rw [List.getElem?_take]
  by_cases hi : i < Q.length
  · rw [if_pos hi]
    have := k3 i hi (by omega)
    rw [Array.getElem?_toList, this]
    unfold pcells
    rw [List.getElem?_map, at_some hi]
    rfl
  · rw [if_neg hi]
    unfold pcells
    rw [List.getElem?_eq_none (by rw [List.length_map]; omega)]
theorem Rq.of {w : World} {B g c : Nat} {Q : List Nat} {n : Nat} (h : OwnP w B 56 (some ⟨g, 0, none⟩) n c Q) (hn : n = Q.length) (k : Nat) : Rq w B g c Q k := by
  subst hn
  rcases h.2 with ⟨h2, h3⟩ | ⟨g', c', cur, h1, h3, h4, h5, h6, h7, h8⟩
  · cases h2
  · cases h1
    refine ⟨⟨cur, h4, by omega, fun i hi _ => ?_⟩, h5, h6, h3⟩
    rw [Nat.mul_one] at h8
    have := congrArg (fun l : List Value => l[i]?) h8
    replace this : (cur.toList.take Q.length)[i]? = (pcells Q)[i]? := this
    rw [List.getElem?_take, if_pos hi, Array.getElem?_toList] at this
    rw [this]
    unfold pcells
    rw [List.getElem?_map, at_some hi]
    rfl
section
variable {w : World} {B s : Nat} {S : Sd} {L : List Nat} {I : Nat → Itm} {P : Nat → Int} {Q : List Nat}
theorem Qs.le (H : Qs w B s S L I P Q) : Q.length ≤ 1000000 := Nat.le_trans (len_sub H.plc.nod H.sub) H.few
theorem Qs.hs (H : Qs w B s S L I P Q) (h0 : 0 < Q.length) (h : Nat) : ∃ g c, Hs w B s S g c L I P Q h := by
  obtain ⟨a, c, h1, h2⟩ := H.ex
  have hl := H.le
  obtain ⟨g, e, -⟩ := OwnR.at h2 h0
  subst e
  exact ⟨g, c, h1, Rq.of h2 rfl h, H.its, fun i hi _ => H.sub _ (at_mem hi), fun i hi _ => H.plc i hi, H.low, hl⟩
theorem Qs.head (H : Qs w B s S L I P Q) : ∃ a c, w.cell? ⟨s, 4, none⟩ = some (.slice a Q.length c) := by
  obtain ⟨a, c, h1, h2⟩ := H.ex
  exact ⟨a, c, by simp [World.cell?, h1]⟩
theorem Hs.qs {g c : Nat} (H : Hs w B s S g c L I P Q Q.length) (ho : Ord (un I) Q) (hout : ∀ p ∈ L, p ∉ Q → P p = -1) (hn : L.Nodup) (hf : L.length ≤ 1000000) : Qs w B s S L I P Q :=
  ⟨⟨_, c, H.blk, H.row.own⟩, H.its, fun p hp => by
    obtain ⟨i, hi, e⟩ := at_ex hp
    rw [← e]
    exact H.sub i hi (by omega), fun i hi => H.plc i hi (by omega), ho, hout, hn, H.low, hf⟩
theorem Hs.keep {g c h : Nat} (H : Hs w B s S g c L I P Q h) {w' : World} (hb : Below w.heap.size w w') : Hs w' B s S g c L I P Q h := by
  have hlt : ∀ (k : Nat) (cs : Array Value) (t : TypeId), w.heap[k]? = some (Obj.cells cs t (0, 0)) → w'.heap[k]? = some (Obj.cells cs t (0, 0)) := fun k cs t hk => by rw [hb.block k (Array.getElem?_eq_some_iff.1 hk).1]; exact hk
  obtain ⟨cur, k1, k2⟩ := H.row.ex
  exact ⟨hlt _ _ _ H.blk, ⟨⟨cur, hlt _ _ _ k1, k2⟩, H.row.le, H.row.mx, H.row.low⟩, fun p hp => ⟨(H.its p hp).1, hlt _ _ _ (H.its p hp).2⟩, H.sub, H.plc, H.low, H.few⟩
theorem Hs.lt {g c h : Nat} (H : Hs w B s S g c L I P Q h) : B ≤ w.heap.size := Nat.le_trans H.low (Nat.le_of_lt (Array.getElem?_eq_some_iff.1 H.blk).1)
theorem Way.keep {w0 : World} {g c h0 it h : Nat} {P0 : Nat → Int} {Q0 : List Nat} (W : Way w0 w B s S g c L I P0 Q0 h0 it P Q h) {w' : World} (hb : Below w.heap.size w w') : Way w0 w' B s S g c L I P0 Q0 h0 it P Q h :=
  ⟨W.hs.keep hb, W.gap, W.lt, W.new, W.perm, W.out, W.mv.trans (Mb.of_below hb W.hs.lt)⟩
theorem qtagP : qtag 56 = true := by decide
theorem qtagI : qtag 86 = true := by decide
theorem qtagS : qtag 63 = true := by decide
/-- Other blocks may be turned. -/
theorem Qs.mv (H : Qs w B s S L I P Q) {w' : World} {t : TypeId → Bool} (hm : Mv t w w') (ht : ∀ k, qtag k = true → t k = false) : Qs w' B s S L I P Q := by
  obtain ⟨a, c, h1, h2⟩ := H.ex
  refine ⟨⟨a, c, by rw [hm.block s _ _ h1 (ht _ qtagS)]; exact h1, OwnR.mv h2 hm (ht _ qtagP)⟩, H.its.mv hm (ht _ qtagI), H.sub, H.plc, H.ord, H.out, H.nod, H.low, H.few⟩
theorem Qs.keep (H : Qs w B s S L I P Q) {w' : World} (hb : Below w.heap.size w w') : Qs w' B s S L I P Q := H.mv (t := fun _ => false) (Mv.of_below hb) (fun _ _ => rfl)
end
end Go.Proofs.YtmjeljldmmkcpabGreat.Sq
