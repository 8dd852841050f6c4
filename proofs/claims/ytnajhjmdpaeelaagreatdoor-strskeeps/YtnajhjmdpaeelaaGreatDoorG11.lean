/- Texts that the others stand on. -/
import Derived.Test.YtnajhjmdpaeelaaGreatDoorG1
import Derived.Test.YtnajhjmdpaeelaaGreatDoorG10
import Derived.Deep.CutRange
import Derived.BigQuiet
import Derived.Lib.Builder
namespace Go.Proofs.YtnajhjmdpaeelaaGreatDoor.Sq
open Go.RowKit Go.PlainAid
open Dk (ptr below_drewN alloc_below step_below add_flat OwnR OwnP OwnS Mv pcells Elt elt_of)
/-- What an item has, but for its place. -/
structure Itm where
  k : ByteArray
  v : Option Addr
  u : Int
abbrev icells (i : Itm) (p : Int) : Array Value := #[.string i.k, .pointer i.v, .int .i64 i.u, .int .i64 p]
/-- The blocks that are a space's own. -/
abbrev Own := Nat → Prop
/-- Blocks that were there and are not its own are as they were. -/
structure Bel (B : Own) (w w' : World) : Prop where
  os : w'.os = w.os
  tape : w'.tape = w.tape
  output : w'.output = w.output
  size : w.heap.size ≤ w'.heap.size
  block : ∀ k, k < w.heap.size → ¬ B k → w'.heap[k]? = w.heap[k]?
theorem Bel.below {C : Nat} {w w' : World} (h : Bel (fun k => C ≤ k) w w') (hC : C ≤ w.heap.size) : Below C w w' := ⟨h.os, h.tape, h.output, h.size, fun k hk => h.block k (Nat.lt_of_lt_of_le hk hC) (Nat.not_le.2 hk)⟩
/-- New blocks are its own. -/
def Up (B : Own) (w : World) : Prop := ∀ k, w.heap.size ≤ k → B k
theorem Up.mono {B : Own} {w w' : World} (h : Up B w) (hs : w.heap.size ≤ w'.heap.size) : Up B w' := fun k hk => h k (Nat.le_trans hs hk)
/-- Items, each with what it has and its place. -/
def Its (w : World) (B : Own) (L : List Nat) (I : Nat → Itm) (P : Nat → Int) : Prop := ∀ p ∈ L, B p ∧ w.heap[p]? = some (.cells (icells (I p) (P p)) 100 (0, 0))
def upd {α : Type} (f : Nat → α) (p : Nat) (x : α) : Nat → α := fun q => if q = p then x else f q
theorem upd_eq {α : Type} (f : Nat → α) (p : Nat) (x : α) : upd f p x p = x := if_pos rfl
theorem upd_ne {α : Type} (f : Nat → α) {p q : Nat} (x : α) (h : q ≠ p) : upd f p x q = f q := if_neg h
/-- What the space's block has, but for its queue. -/
structure Sd where
  x : Nat
  E : Int
  T : Int
  d : Nat
  v : Nat
abbrev scells (S : Sd) (q : Value) : Array Value := #[.int .u64 (S.x : Nat), .int .i64 S.E, .int .i64 S.T, ptr S.d, q, ptr S.v]
/-- The types of the blocks that the queue's calls turn. -/
def qtag (t : TypeId) : Bool := t == 77 || t == 100 || t == 70
/-- The queue's row, but for the place h. -/
structure Rq (w : World) (B : Own) (g c : Nat) (Q : List Nat) (h : Nat) : Prop where
  ex : ∃ cur : Array Value, w.heap[g]? = some (.cells cur 70 (0, 0)) ∧ cur.size = c ∧ ∀ i, i < Q.length → i ≠ h → cur[i]? = some (ptr (at' Q i))
  le : Q.length ≤ c
  mx : c ≤ maxLen
  low : B g
/-- A queue with a free place. -/
structure Hs (w : World) (B : Own) (s : Nat) (S : Sd) (g c : Nat) (L : List Nat) (I : Nat → Itm) (P : Nat → Int) (Q : List Nat) (h : Nat) : Prop where
  blk : w.heap[s]? = some (.cells (scells S (.slice (some ⟨g, 0, none⟩) Q.length c)) 77 (0, 0))
  row : Rq w B g c Q h
  its : Its w B L I P
  sub : ∀ i, i < Q.length → i ≠ h → at' Q i ∈ L
  plc : ∀ i, i < Q.length → i ≠ h → P (at' Q i) = i
  low : B s
  few : Q.length ≤ 1000000
theorem Its.kept {w w' : World} {B : Own} {L : List Nat} {I : Nat → Itm} {P : Nat → Int} (h : Its w B L I P) (hb : ∀ p ∈ L, w'.heap[p]? = w.heap[p]?) : Its w' B L I P := fun p hp => ⟨(h p hp).1, by rw [hb p hp]; exact (h p hp).2⟩
theorem Its.lt {w : World} {B : Own} {L : List Nat} {I : Nat → Itm} {P : Nat → Int} (h : Its w B L I P) {p : Nat} (hp : p ∈ L) : p < w.heap.size := (Array.getElem?_eq_some_iff.1 (h p hp).2).1
theorem Its.mv {w w' : World} {B : Own} {L : List Nat} {I : Nat → Itm} {P : Nat → Int} {t : TypeId → Bool} (h : Its w B L I P) (hm : Mv t w w') (ht : t 100 = false) : Its w' B L I P := h.kept fun p hp => hm.block p _ _ (h p hp).2 ht
theorem Its.ck {w : World} {B : Own} {L : List Nat} {I : Nat → Itm} {P : Nat → Int} (h : Its w B L I P) {p : Nat} (hp : p ∈ L) : w.cell? ⟨p, 0, none⟩ = some (.string (I p).k) := by simp [World.cell?, (h p hp).2]
theorem Its.cv {w : World} {B : Own} {L : List Nat} {I : Nat → Itm} {P : Nat → Int} (h : Its w B L I P) {p : Nat} (hp : p ∈ L) : w.cell? ⟨p, 1, none⟩ = some (.pointer (I p).v) := by simp [World.cell?, (h p hp).2]
theorem Its.cu {w : World} {B : Own} {L : List Nat} {I : Nat → Itm} {P : Nat → Int} (h : Its w B L I P) {p : Nat} (hp : p ∈ L) : w.cell? ⟨p, 2, none⟩ = some (.int .i64 (I p).u) := by simp [World.cell?, (h p hp).2]
theorem Its.cp {w : World} {B : Own} {L : List Nat} {I : Nat → Itm} {P : Nat → Int} (h : Its w B L I P) {p : Nat} (hp : p ∈ L) : w.cell? ⟨p, 3, none⟩ = some (.int .i64 (P p)) := by simp [World.cell?, (h p hp).2]
theorem Its.fz {w : World} {B : Own} {L : List Nat} {I : Nat → Itm} {P : Nat → Int} (h : Its w B L I P) {p : Nat} (hp : p ∈ L) (o : Nat) : w.frozen? ⟨p, o, none⟩ = false := by simp [World.frozen?, (h p hp).2]
theorem heap_set {w : World} {q o : Nat} {cs : Array Value} {t : TypeId} {v : Value} (h : w.heap[q]? = some (.cells cs t (0, 0))) : (w.setCell ⟨q, o, none⟩ v).heap[q]? = some (.cells (cs.setIfInBounds o v) t (0, 0)) := by
  simp [World.setCell, Array.getElem?_modify, h]
theorem heap_ne {w : World} {q o k : Nat} {v : Value} (h : k ≠ q) : (w.setCell ⟨q, o, none⟩ v).heap[k]? = w.heap[k]? := Below.heap_setCell _ _ _ _ h
theorem Mv.set {p : TypeId → Bool} {w : World} {q o : Nat} {v : Value} {cs : Array Value} {t : TypeId} (h : w.heap[q]? = some (.cells cs t (0, 0))) (ht : p t = true) : Mv p w (w.setCell ⟨q, o, none⟩ v) :=
  ⟨rfl, rfl, rfl, by simp [World.setCell], fun k cs' t' hk hp => heap_ne (fun e => by
    subst e
    rw [h] at hk
    injection hk with hk
    injection hk with _ e2
    rw [← e2, ht] at hp
    cases hp)⟩
/-- Blocks of some types may be turned, from B on, and there may be new ones. -/
structure Mb (p : TypeId → Bool) (B : Own) (w w' : World) : Prop where
  mv : Mv p w w'
  be : Bel B w w'
theorem Mb.of_below {p : TypeId → Bool} {B : Own} {w w' : World} (h : Below w.heap.size w w') : Mb p B w w' := ⟨Mv.of_below h, ⟨h.os, h.tape, h.output, h.size, fun k hk _ => h.block k hk⟩⟩
theorem Mb.refl (p : TypeId → Bool) (B : Own) (w : World) : Mb p B w w := ⟨⟨rfl, rfl, rfl, Nat.le_refl _, fun _ _ _ _ _ => rfl⟩, ⟨rfl, rfl, rfl, Nat.le_refl _, fun _ _ _ => rfl⟩⟩
theorem Mb.trans {p : TypeId → Bool} {B : Own} {w w1 w2 : World} (h : Mb p B w w1) (k : Mb p B w1 w2) : Mb p B w w2 :=
  ⟨h.mv.trans k.mv, ⟨k.be.os.trans h.be.os, k.be.tape.trans h.be.tape, k.be.output.trans h.be.output, Nat.le_trans h.be.size k.be.size, fun i hi hn => (k.be.block i (Nat.lt_of_lt_of_le hi h.be.size) hn).trans (h.be.block i hi hn)⟩⟩
theorem Mb.set {p : TypeId → Bool} {B : Own} {w : World} {q o : Nat} {v : Value} {cs : Array Value} {t : TypeId} (h : w.heap[q]? = some (.cells cs t (0, 0))) (ht : p t = true) (hB : B q) : Mb p B w (w.setCell ⟨q, o, none⟩ v) :=
  ⟨Mv.set h ht, ⟨rfl, rfl, rfl, by simp [World.setCell], fun k _ hk => heap_ne (fun e => hk (by rw [e]; exact hB))⟩⟩
theorem Mb.mono {p p' : TypeId → Bool} {B : Own} {w w' : World} (h : Mb p B w w') (hp : ∀ t, p t = true → p' t = true) : Mb p' B w w' :=
  ⟨⟨h.mv.os, h.mv.tape, h.mv.output, h.mv.size, fun k cs t hk ht => h.mv.block k cs t hk (by
    cases e : p t with
    | false => rfl
    | true => rw [hp t e] at ht; cases ht)⟩, h.be⟩
theorem tag_ne {w : World} {p q : Nat} {cs ds : Array Value} {t u : TypeId} (h : w.heap[p]? = some (.cells cs t (0, 0))) (k : w.heap[q]? = some (.cells ds u (0, 0))) (hn : t ≠ u) : p ≠ q := by
  intro e
  subst e
  rw [h] at k
  injection k with k
  injection k with _ e2
  exact hn e2
/-- An item's place is turned. -/
theorem Its.place {w : World} {B : Own} {L : List Nat} {I : Nat → Itm} {P : Nat → Int} (h : Its w B L I P) {q : Nat} (hq : q ∈ L) (n : Int) : Its (w.setCell ⟨q, 3, none⟩ (.int .i64 n)) B L I (upd P q n) := by
  intro p hp
  refine ⟨(h p hp).1, ?_⟩
  by_cases e : p = q
  · subst e
    rw [heap_set (h p hp).2, upd_eq]
    rfl
  · rw [heap_ne e, upd_ne P n e]
    exact (h p hp).2
/-- What it is held until is turned. -/
theorem Its.until {w : World} {B : Own} {L : List Nat} {I : Nat → Itm} {P : Nat → Int} (h : Its w B L I P) {q : Nat} (hq : q ∈ L) (n : Int) : Its (w.setCell ⟨q, 2, none⟩ (.int .i64 n)) B L (upd I q { I q with u := n }) P := by
  intro p hp
  refine ⟨(h p hp).1, ?_⟩
  by_cases e : p = q
  · subst e
    rw [heap_set (h p hp).2, upd_eq]
    rfl
  · rw [heap_ne e, upd_ne I _ e]
    exact (h p hp).2
theorem Its.value {w : World} {B : Own} {L : List Nat} {I : Nat → Itm} {P : Nat → Int} (h : Its w B L I P) {q : Nat} (hq : q ∈ L) (n : Option Addr) : Its (w.setCell ⟨q, 1, none⟩ (.pointer n)) B L (upd I q { I q with v := n }) P := by
  intro p hp
  refine ⟨(h p hp).1, ?_⟩
  by_cases e : p = q
  · subst e
    rw [heap_set (h p hp).2, upd_eq]
    rfl
  · rw [heap_ne e, upd_ne I _ e]
    exact (h p hp).2
section
variable {w : World} {B : Own} {s : Nat} {S : Sd} {g c : Nat} {L : List Nat} {I : Nat → Itm} {P : Nat → Int} {Q : List Nat} {h : Nat}
theorem Hs.head (H : Hs w B s S g c L I P Q h) : w.cell? ⟨s, 4, none⟩ = some (.slice (some ⟨g, 0, none⟩) Q.length c) := by simp [World.cell?, H.blk]
theorem Hs.cell (H : Hs w B s S g c L I P Q h) {i : Nat} (hi : i < Q.length) (hn : i ≠ h) : w.cell? ⟨g, i, none⟩ = some (ptr (at' Q i)) := by
  obtain ⟨cur, h1, h2, h3⟩ := H.row.ex
  simp only [World.cell?, h1]
  exact h3 i hi hn
theorem Hs.any (H : Hs w B s S g c L I P Q h) {i : Nat} (hi : i < Q.length) : ∃ v, w.cell? ⟨g, i, none⟩ = some v := by
  obtain ⟨cur, h1, h2, h3⟩ := H.row.ex
  have hl : i < cur.size := by have := H.row.le; omega
  exact ⟨cur[i], by simp [World.cell?, h1, hl]⟩
theorem Hs.fz (H : Hs w B s S g c L I P Q h) (i : Nat) : w.frozen? ⟨g, i, none⟩ = false := by
  obtain ⟨cur, h1, h2, h3⟩ := H.row.ex
  simp [World.frozen?, h1]
/-- An item is laid into the free place; another place is free then. -/
theorem Hs.lay (H : Hs w B s S g c L I P Q h) {q : Nat} (hq : q ∈ L) (hh : h < Q.length) (h2 : Nat) (hne : ∀ i, i < Q.length → i ≠ h → i ≠ h2 → at' Q i ≠ q) :
    Hs ((w.setCell ⟨g, h, none⟩ (ptr q)).setCell ⟨q, 3, none⟩ (.int .i64 h)) B s S g c L I (upd P q h) (Q.set h q) h2 ∧ Mb qtag B w ((w.setCell ⟨g, h, none⟩ (ptr q)).setCell ⟨q, 3, none⟩ (.int .i64 h)) := by
  obtain ⟨cur, k1, k2, k3⟩ := H.row.ex
  have hI := H.its q hq
  have hgq : g ≠ q := tag_ne k1 hI.2 (by decide)
  have hsg : s ≠ g := tag_ne H.blk k1 (by decide)
  have hsq : s ≠ q := tag_ne H.blk hI.2 (by decide)
  have n1 : (w.setCell ⟨g, h, none⟩ (ptr q)).heap[q]? = some (.cells (icells (I q) (P q)) 100 (0, 0)) := by rw [heap_ne (Ne.symm hgq)]; exact hI.2
  refine ⟨⟨?_, ⟨⟨cur.setIfInBounds h (ptr q), ?_, by rw [Array.size_setIfInBounds]; exact k2, ?_⟩, by rw [List.length_set]; exact H.row.le, H.row.mx, H.row.low⟩, ?_, ?_, ?_, H.low, by rw [List.length_set]; exact H.few⟩, ?_⟩
  · rw [heap_ne hsq, heap_ne hsg, List.length_set]; exact H.blk
  · rw [heap_ne hgq, heap_set k1]
  · intro i hi hn
    rw [List.length_set] at hi
    have hc : h < cur.size := by have := H.row.le; omega
    by_cases e : i = h
    · subst e
      rw [at_eq rfl hh]
      simp [hc]
    · rw [at_ne e, Array.getElem?_setIfInBounds_ne (Ne.symm e)]
      exact k3 i hi e
  · refine Its.place (fun p hp => ⟨(H.its p hp).1, ?_⟩) hq h
    rw [heap_ne (Ne.symm (tag_ne k1 (H.its p hp).2 (by decide)))]
    exact (H.its p hp).2
  · intro i hi hn
    rw [List.length_set] at hi
    by_cases e : i = h
    · rw [at_eq e hh]; exact hq
    · rw [at_ne e]; exact H.sub i hi e
  · intro i hi hn
    rw [List.length_set] at hi
    by_cases e : i = h
    · rw [at_eq e hh, upd_eq, e]
    · rw [at_ne e, upd_ne P _ (hne i hi e hn)]; exact H.plc i hi e
  · exact (Mb.set (p := qtag) k1 (by decide) H.row.low).trans (Mb.set (p := qtag) n1 (by decide) hI.1)
end
abbrev un (I : Nat → Itm) : Nat → Int := fun p => (I p).u
/-- On the way: an item is held beside the queue, whose place h is free; h0 was. -/
structure Way (w0 w : World) (B : Own) (s : Nat) (S : Sd) (g c : Nat) (L : List Nat) (I : Nat → Itm) (P0 : Nat → Int) (Q0 : List Nat) (h0 it : Nat) (P : Nat → Int) (Q : List Nat) (h : Nat) : Prop where
  hs : Hs w B s S g c L I P Q h
  gap : Gap (un I) Q h
  lt : h < Q.length
  new : ∀ i, i < Q.length → i ≠ h → at' Q i ≠ it
  perm : (Q.set h it).Perm (Q0.set h0 it)
  out : ∀ q, q ∉ Q0.set h0 it → P q = P0 q
  mv : Mb qtag B w0 w
/-- At its end. -/
structure Fin (w0 w : World) (B : Own) (s : Nat) (S : Sd) (g c : Nat) (L : List Nat) (I : Nat → Itm) (P0 : Nat → Int) (Q0 : List Nat) (h0 it : Nat) (P : Nat → Int) (Q : List Nat) : Prop where
  hs : Hs w B s S g c L I P Q Q.length
  perm : Q.Perm (Q0.set h0 it)
  out : ∀ q, q ∉ Q0.set h0 it → P q = P0 q
  mv : Mb qtag B w0 w
def kids (I : Nat → Itm) (Q : List Nat) (h it : Nat) : Prop := ∀ i, 0 < i → i < Q.length → (i - 1) / 2 = h → un I it ≤ un I (at' Q i)
def ahead (I : Nat → Itm) (Q : List Nat) (h it : Nat) : Prop := 0 < h → un I (at' Q ((h - 1) / 2)) ≤ un I it
section
variable {w0 w : World} {B : Own} {s : Nat} {S : Sd} {g c : Nat} {L : List Nat} {I : Nat → Itm} {P0 : Nat → Int} {Q0 : List Nat} {h0 it : Nat} {P : Nat → Int} {Q : List Nat} {h : Nat}
theorem Way.len (W : Way w0 w B s S g c L I P0 Q0 h0 it P Q h) : Q.length = Q0.length := by
  have := W.perm.length_eq
  rwa [List.length_set, List.length_set] at this
/-- One who stands at another place fills the gap. -/
theorem Way.fill (W : Way w0 w B s S g c L I P0 Q0 h0 it P Q h) {a : Nat} (ha : a < Q.length) (hne : a ≠ h) {w' : World} (hw : w' = (w.setCell ⟨g, h, none⟩ (ptr (at' Q a))).setCell ⟨at' Q a, 3, none⟩ (.int .i64 h)) (hg : Gap (un I) (Q.set h (at' Q a)) a) :
    Way w0 w' B s S g c L I P0 Q0 h0 it (upd P (at' Q a) h) (Q.set h (at' Q a)) a := by
  have hin := W.hs.sub a ha hne
  obtain ⟨k1, k2⟩ := W.hs.lay hin W.lt a (fun i hi h1 h2 e => h2 (by
    have e1 := W.hs.plc i hi h1
    have e2 := W.hs.plc a ha hne
    rw [e, e2] at e1
    omega))
  rw [← hw] at k1 k2
  refine ⟨k1, hg, by rw [List.length_set]; exact ha, ?_, (swap_perm Q h a it W.lt ha hne).trans W.perm, ?_, W.mv.trans k2⟩
  · intro i hi hn
    rw [List.length_set] at hi
    by_cases e : i = h
    · rw [at_eq e W.lt]; exact W.new a ha hne
    · rw [at_ne e]; exact W.new i hi e
  · intro q hq
    rw [upd_ne]
    · exact W.out q hq
    · intro e
      apply hq
      rw [e]
      refine W.perm.mem_iff.1 ?_
      have := at_mem (Q := Q.set h it) (i := a) (by rw [List.length_set]; exact ha)
      rw [at_ne hne] at this
      exact this
/-- It is laid. -/
theorem Way.lay (W : Way w0 w B s S g c L I P0 Q0 h0 it P Q h) (hit : it ∈ L) {w' : World} (hw : w' = (w.setCell ⟨g, h, none⟩ (ptr it)).setCell ⟨it, 3, none⟩ (.int .i64 h)) :
    Fin w0 w' B s S g c L I P0 Q0 h0 it (upd P it h) (Q.set h it) := by
  obtain ⟨k1, k2⟩ := W.hs.lay hit W.lt (Q.set h it).length (fun i hi h1 _ => W.new i hi h1)
  rw [← hw] at k1 k2
  refine ⟨k1, W.perm, ?_, W.mv.trans k2⟩
  intro q hq
  rw [upd_ne]
  · exact W.out q hq
  · intro e
    apply hq
    rw [e]
    refine W.perm.mem_iff.1 ?_
    have := at_mem (Q := Q.set h it) (i := h) (by rw [List.length_set]; exact W.lt)
    rw [at_eq rfl W.lt] at this
    exact this
theorem Fin.ofWay {Q1 : List Nat} {P1 : Nat → Int} {h1 : Nat} (W : Fin w0 w B s S g c L I P0 Q0 h0 it P Q) {w1 : World} (F : Fin w w1 B s S g c L I P Q h1 it P1 Q1) (he : Q.set h1 it = Q) : Fin w0 w1 B s S g c L I P0 Q0 h0 it P1 Q1 := by
  have hp := F.perm
  have ho := F.out
  rw [he] at hp ho
  exact ⟨F.hs, hp.trans W.perm, fun q hq => (ho q (fun hm => hq (W.perm.mem_iff.1 hm))).trans (W.out q hq), W.mv.trans F.mv⟩
end
/-- A queue: its items, those of them that stand in it. -/
structure Qs (w : World) (B : Own) (s : Nat) (S : Sd) (L : List Nat) (I : Nat → Itm) (P : Nat → Int) (Q : List Nat) : Prop where
  ex : ∃ a c, w.heap[s]? = some (.cells (scells S (.slice a Q.length c)) 77 (0, 0)) ∧ OwnP w 0 70 a Q.length c Q ∧ ∀ k, a.map (·.block) = some k → B k
  its : Its w B L I P
  sub : ∀ p ∈ Q, p ∈ L
  plc : Plcs P Q
  ord : Ord (un I) Q
  out : ∀ p ∈ L, p ∉ Q → P p = -1
  nod : L.Nodup
  low : B s
  few : L.length ≤ 1000000
theorem len_sub {Q L : List Nat} (hn : Q.Nodup) (hs : ∀ p ∈ Q, p ∈ L) : Q.length ≤ L.length := by
  induction Q generalizing L with
  | nil => exact Nat.zero_le _
  | cons q Q ih =>
    rw [List.nodup_cons] at hn
    have h1 : ∀ p ∈ Q, p ∈ L.erase q := fun p hp => (List.mem_erase_of_ne (fun e => hn.1 (by rw [← e]; exact hp))).2 (hs p (List.mem_cons_of_mem _ hp))
    have h2 := ih hn.2 h1
    have h3 := List.length_erase_of_mem (hs q (by simp))
    have h4 : 0 < L.length := List.length_pos_of_mem (hs q (by simp))
    rw [List.length_cons]
    omega
theorem Plcs.nod {P : Nat → Int} {Q : List Nat} (h : Plcs P Q) : Q.Nodup := by
  unfold List.Nodup
  rw [List.pairwise_iff_getElem]
  intro i j hi hj hij e
  have h1 := at_some hi
  have h2 := at_some hj
  rw [List.getElem?_eq_getElem hi] at h1
  rw [List.getElem?_eq_getElem hj] at h2
  injection h1 with h1
  injection h2 with h2
  have := h.inj hi hj (by rw [← h1, ← h2]; exact e)
  omega
theorem Rq.own {w : World} {B : Own} {g c : Nat} {Q : List Nat} (h : Rq w B g c Q Q.length) : OwnP w 0 70 (some ⟨g, 0, none⟩) Q.length c Q := by
  obtain ⟨cur, k1, k2, k3⟩ := h.ex
  have hl := h.le
  refine ⟨by simp [pcells], .inr ⟨g, c, cur, rfl, Nat.zero_le _, k1, h.le, h.mx, by omega, ?_⟩⟩
  rw [Nat.mul_one]
  apply List.ext_getElem?
  intro i
  rw [List.getElem?_take]
  by_cases hi : i < Q.length
  · rw [if_pos hi]
    have := k3 i hi (by omega)
    rw [Array.getElem?_toList, this]
    unfold pcells
    rw [List.getElem?_map, at_some hi]
    rfl
  · rw [if_neg hi]
    unfold pcells
    rw [List.getElem?_eq_none (by rw [List.length_map]; omega)]
theorem Rq.of {w : World} {B : Own} {g c : Nat} {Q : List Nat} {n : Nat} (h : OwnP w 0 70 (some ⟨g, 0, none⟩) n c Q) (hB : B g) (hn : n = Q.length) (k : Nat) : Rq w B g c Q k := by
  subst hn
  rcases h.2 with ⟨h2, h3⟩ | ⟨g', c', cur, h1, h3, h4, h5, h6, h7, h8⟩
  · cases h2
  · cases h1
    refine ⟨⟨cur, h4, by omega, fun i hi _ => ?_⟩, h5, h6, hB⟩
    rw [Nat.mul_one] at h8
    have := congrArg (fun l : List Value => l[i]?) h8
    replace this : (cur.toList.take Q.length)[i]? = (pcells Q)[i]? := this
    rw [List.getElem?_take, if_pos hi, Array.getElem?_toList] at this
    rw [this]
    unfold pcells
    rw [List.getElem?_map, at_some hi]
    rfl
section
variable {w : World} {B : Own} {s : Nat} {S : Sd} {L : List Nat} {I : Nat → Itm} {P : Nat → Int} {Q : List Nat}
theorem Qs.le (H : Qs w B s S L I P Q) : Q.length ≤ 1000000 := Nat.le_trans (len_sub H.plc.nod H.sub) H.few
theorem Qs.hs (H : Qs w B s S L I P Q) (h0 : 0 < Q.length) (h : Nat) : ∃ g c, Hs w B s S g c L I P Q h := by
  obtain ⟨a, c, h1, h2, h3⟩ := H.ex
  have hl := H.le
  obtain ⟨g, e, -⟩ := OwnR.at h2 h0
  subst e
  exact ⟨g, c, h1, Rq.of h2 (h3 g rfl) rfl h, H.its, fun i hi _ => H.sub _ (at_mem hi), fun i hi _ => H.plc i hi, H.low, hl⟩
theorem Qs.head (H : Qs w B s S L I P Q) : ∃ a c, w.cell? ⟨s, 4, none⟩ = some (.slice a Q.length c) := by
  obtain ⟨a, c, h1, h2⟩ := H.ex
  exact ⟨a, c, by simp [World.cell?, h1]⟩
theorem Hs.qs {g c : Nat} (H : Hs w B s S g c L I P Q Q.length) (ho : Ord (un I) Q) (hout : ∀ p ∈ L, p ∉ Q → P p = -1) (hn : L.Nodup) (hf : L.length ≤ 1000000) : Qs w B s S L I P Q :=
  ⟨⟨_, c, H.blk, H.row.own, fun k hk => by
    injection hk with hk
    rw [← hk]
    exact H.row.low⟩, H.its, fun p hp => by
    obtain ⟨i, hi, e⟩ := at_ex hp
    rw [← e]
    exact H.sub i hi (by omega), fun i hi => H.plc i hi (by omega), ho, hout, hn, H.low, hf⟩
theorem Hs.keep {g c h : Nat} (H : Hs w B s S g c L I P Q h) {w' : World} (hb : Below w.heap.size w w') : Hs w' B s S g c L I P Q h := by
  have hlt : ∀ (k : Nat) (cs : Array Value) (t : TypeId), w.heap[k]? = some (Obj.cells cs t (0, 0)) → w'.heap[k]? = some (Obj.cells cs t (0, 0)) := fun k cs t hk => by rw [hb.block k (Array.getElem?_eq_some_iff.1 hk).1]; exact hk
  obtain ⟨cur, k1, k2⟩ := H.row.ex
  exact ⟨hlt _ _ _ H.blk, ⟨⟨cur, hlt _ _ _ k1, k2⟩, H.row.le, H.row.mx, H.row.low⟩, fun p hp => ⟨(H.its p hp).1, hlt _ _ _ (H.its p hp).2⟩, H.sub, H.plc, H.low, H.few⟩
theorem Way.keep {w0 : World} {g c h0 it h : Nat} {P0 : Nat → Int} {Q0 : List Nat} (W : Way w0 w B s S g c L I P0 Q0 h0 it P Q h) {w' : World} (hb : Below w.heap.size w w') : Way w0 w' B s S g c L I P0 Q0 h0 it P Q h :=
  ⟨W.hs.keep hb, W.gap, W.lt, W.new, W.perm, W.out, W.mv.trans (Mb.of_below hb)⟩
theorem qtagP : qtag 70 = true := by decide
theorem qtagI : qtag 100 = true := by decide
theorem qtagS : qtag 77 = true := by decide
/-- Other blocks may be turned. -/
theorem Qs.mv (H : Qs w B s S L I P Q) {w' : World} {t : TypeId → Bool} (hm : Mv t w w') (ht : ∀ k, qtag k = true → t k = false) : Qs w' B s S L I P Q := by
  obtain ⟨a, c, h1, h2, h3⟩ := H.ex
  refine ⟨⟨a, c, by rw [hm.block s _ _ h1 (ht _ qtagS)]; exact h1, OwnR.mv h2 hm (ht _ qtagP), h3⟩, H.its.mv hm (ht _ qtagI), H.sub, H.plc, H.ord, H.out, H.nod, H.low, H.few⟩
theorem Qs.keep (H : Qs w B s S L I P Q) {w' : World} (hb : Below w.heap.size w w') : Qs w' B s S L I P Q := H.mv (t := fun _ => false) (Mv.of_below hb) (fun _ _ => rfl)
end
abbrev qp (s : Nat) : Value := .pointer (some ⟨s, 4, none⟩)
theorem first_any (w : World) (B : Own) (s : Nat) (S : Sd) (g c : Nat) (L : List Nat) (I : Nat → Itm) (P : Nat → Int) (Q : List Nat) (h : Nat) (H : Hs w B s S g c L I P Q h) (h0 : 0 < Q.length) (hh : h ≠ 0) :
    Calls Tryz.prog 78 #[qp s] w fun e w' => e = .returned (ptr (at' Q 0)) ∧ w' = w := by
  have e1 := H.head
  have e2 := H.cell h0 (Ne.symm hh)
  have hz : (0 : Int) < Q.length := by omega
  clear H
  go_enter Tryz.func78, Tryz.ntmps78
  go_wp2
  go_ret
  exact ⟨rfl, rfl⟩
theorem isTimed_any (w : World) (p : Nat) (n : Int) (h : w.cell? ⟨p, 3, none⟩ = some (.int .i64 n)) :
    Calls Tryz.prog 40 #[ptr p] w fun e w' => e = .returned (.bool (decide (n ≠ -1))) ∧ w' = w := by
  by_cases hn : n = -1
  · subst hn
    go_enter Tryz.func40, Tryz.ntmps40
    go_wp2
    go_ret
    exact ⟨rfl, rfl⟩
  · rw [decide_eq_true hn]
    have hb : (n != -1) = true := by simpa using hn
    go_enter Tryz.func40, Tryz.ntmps40
    go_wp2
    go_ret
    exact ⟨rfl, rfl⟩
/-- An item is laid at a place. -/
theorem lay_any (w : World) (B : Own) (s : Nat) (S : Sd) (g c : Nat) (L : List Nat) (I : Nat → Itm) (P : Nat → Int) (Q : List Nat) (h : Nat) (H : Hs w B s S g c L I P Q h) (q : Nat) (hq : q ∈ L) (hh : h < Q.length) :
    Calls Tryz.prog 133 #[qp s, ptr q, .int .i64 h] w fun e w' => e = .returned (.tuple #[]) ∧ w' = (w.setCell ⟨g, h, none⟩ (ptr q)).setCell ⟨q, 3, none⟩ (.int .i64 h) := by
  have e1 := H.head
  obtain ⟨v0, e2⟩ := H.any hh
  have e3 := H.fz h
  have hz : (h : Int) < Q.length := by omega
  have hI := H.its q hq
  obtain ⟨cur, k1, -⟩ := H.row.ex
  have n1 : (w.setCell ⟨g, h, none⟩ (ptr q)).heap[q]? = some (.cells (icells (I q) (P q)) 100 (0, 0)) := by rw [heap_ne (Ne.symm (tag_ne k1 hI.2 (by decide)))]; exact hI.2
  have e4 : (w.setCell ⟨g, h, none⟩ (ptr q)).cell? ⟨q, 3, none⟩ = some (.int .i64 (P q)) := by simp [World.cell?, n1]
  have e5 : (w.setCell ⟨g, h, none⟩ (ptr q)).frozen? ⟨q, 3, none⟩ = false := by simp [World.frozen?, n1]
  clear H hI k1 n1
  go_enter Tryz.func133, Tryz.ntmps133
  go_wp2
  go_end0
  exact ⟨rfl, rfl⟩
/-- What rise leaves. -/
def RiseTo (w w' : World) (B : Own) (s : Nat) (S : Sd) (g c : Nat) (L : List Nat) (I : Nat → Itm) (P : Nat → Int) (Q : List Nat) (h it : Nat) : Prop :=
  ∃ P' Q' h', Fin w w' B s S g c L I P Q h it P' Q' ∧ h' < Q'.length ∧ at' Q' h' = it ∧ P' it = h' ∧ Gap (un I) Q' h' ∧ ahead I Q' h' it ∧ (kids I Q h it → Ord (un I) Q')
theorem Way.rose {w0 w : World} {B : Own} {s : Nat} {S : Sd} {g c : Nat} {L : List Nat} {I : Nat → Itm} {P0 : Nat → Int} {Q0 : List Nat} {h0 it : Nat} {P : Nat → Int} {Q : List Nat} {h : Nat} (W : Way w0 w B s S g c L I P0 Q0 h0 it P Q h) (hit : it ∈ L) {w' : World} (hw : w' = (w.setCell ⟨g, h, none⟩ (ptr it)).setCell ⟨it, 3, none⟩ (.int .i64 h)) (ha : ahead I Q h it) (hk : kids I Q0 h0 it → kids I Q h it) : RiseTo w0 w' B s S g c L I P0 Q0 h0 it := by
  obtain ⟨k1, k2⟩ := W.gap.lay (x := it) ha
  exact ⟨_, _, h, W.lay hit hw, by rw [List.length_set]; exact W.lt, at_eq rfl W.lt, upd_eq _ _ _, k1, k2, fun k => W.gap.done W.lt ha (hk k)⟩
set_option maxRecDepth 100000 in
theorem rise_any (w : World) (B : Own) (s : Nat) (S : Sd) (g c : Nat) (L : List Nat) (I : Nat → Itm) (P : Nat → Int) (Q : List Nat) (h it : Nat) (hW : Way w w B s S g c L I P Q h it P Q h) (hit : it ∈ L) :
    Calls Tryz.prog 82 #[qp s, ptr it, .int .i64 h] w fun e w' => e = .returned (.tuple #[]) ∧ RiseTo w w' B s S g c L I P Q h it := by
  have HW0 : Hid (Way w w B s S g c L I P Q h it P Q h) := hW
  clear hW
  go_enter Tryz.func82, Tryz.ntmps82
  go_wp2
  go_loopg [2] (h + 1) (fun gk pv wr => ∃ (h' : Nat) (P' : Nat → Int) (Q' : List Nat), pv = .int .i64 h' ∧ h' + 1 ≤ gk ∧ Hid (Way w wr B s S g c L I P Q h it P' Q' h') ∧ Hid (kids I Q h it → kids I Q' h' it))
  case atStart => exact ⟨h, P, Q, rfl, Nat.le_refl _, HW0, fun k => k⟩
  case round =>
    obtain ⟨h', P', Q', rfl, hg, HW, HK⟩ := hrel
    have hlen := HW.out.hs.few
    have hlt := HW.out.lt
    by_cases h0 : (0 : Int) < h'
    · obtain ⟨a, ha⟩ : ∃ a, (h' - 1) / 2 = a := ⟨_, rfl⟩
      have halt : a < h' := by omega
      have hah : a ≠ h' := by omega
      have hal : a < Q'.length := by omega
      have hiz : (a : Int) < Q'.length := by omega
      have hq1 : ((h' : Int) - 1).tdiv 2 = (a : Nat) := by rw [Int.tdiv_eq_ediv_of_nonneg (by omega)]; omega
      have e1 := HW.out.hs.head
      have e2 := HW.out.hs.cell hal hah
      have hr := HW.out.hs.sub a hal hah
      obtain ⟨r, hre⟩ : ∃ r, at' Q' a = r := ⟨_, rfl⟩
      rw [hre] at e2 hr
      have e3 := HW.out.hs.its.cu hr
      have e4 := HW.out.hs.its.cu hit
      have HRE : Hid (at' Q' a = r) := hre
      have HA : Hid ((h' - 1) / 2 = a) := ha
      clear hre ha
      by_cases hc : (I r).u ≤ (I it).u
      · have HC : Hid ((I r).u ≤ (I it).u) := hc
        have hcz : decide ((I r).u ≤ (I it).u) = true := decide_eq_true hc
        clear hc
        go_upto_region 2 with fail
        go_quiet (fail)
        have HW1 := HW.out.keep (below_drewN wr nq)
        generalize wr.drewN nq = w1 at HW1 ⊢
        have HL := lay_any w1 B s S g c L I P' Q' h' HW1.hs it hit HW1.lt
        have HW2 : Hid (Way w w1 B s S g c L I P Q h it P' Q' h') := HW1
        clear e1 e2 e3 e4 HW1
        go_wp2_with fail
        refine HL.mono ?_
        rintro e w2 ⟨rfl, hw2⟩
        have HR : Hid (RiseTo w w2 B s S g c L I P Q h it) := HW2.out.rose hit hw2 (fun _ => by rw [HA.out, HRE.out]; exact HC.out) HK.out
        clear hw2 HL
        go_wp2
        go_end0
        exact ⟨rfl, HR.out⟩
      · have HC : Hid ((I it).u ≤ (I r).u) := by show _ ≤ _; omega
        have hcz : decide ((I r).u ≤ (I it).u) = false := decide_eq_false hc
        clear hc
        go_upto_region 2 with fail
        go_quiet (fail)
        have HW1 := HW.out.keep (below_drewN wr nq)
        generalize wr.drewN nq = w1 at HW1 ⊢
        have HL := lay_any w1 B s S g c L I P' Q' h' HW1.hs r hr HW1.lt
        have HW2 : Hid (Way w w1 B s S g c L I P Q h it P' Q' h') := HW1
        clear e1 e2 e3 e4 HW1
        have e1 := HW2.out.hs.head
        have e2 := HW2.out.hs.cell hal hah
        rw [HRE.out] at e2
        go_wp2_with fail
        refine HL.mono ?_
        rintro e w2 ⟨rfl, hw2⟩
        have HW3 : Hid (Way w w2 B s S g c L I P Q h it (upd P' r h') (Q'.set h' r) a) := by
          have h1 := HW2.out.gap.up (by omega) HW2.out.lt
          rw [HA.out] at h1
          have h2 := HW2.out.fill hal hah (w' := w2) (by rw [HRE.out]; exact hw2) h1
          rw [HRE.out] at h2
          exact h2
        have HK3 : Hid (kids I Q h it → kids I (Q'.set h' r) a it) := fun _ => by
          have h1 := HW2.out.gap.behind (x := it) (by omega) HW2.out.lt (by rw [HA.out, HRE.out]; exact HC.out)
          rw [HA.out, HRE.out] at h1
          exact h1
        clear hw2 HL e1 e2
        go_wp2
        go_roundg (gk - 1)
        case measure => omega
        case rel => exact ⟨a, _, _, rfl, by omega, HW3, HK3⟩
    · obtain rfl : h' = 0 := by omega
      have HL : Calls Tryz.prog 133 #[qp s, ptr it, .int .i64 0] wr fun e w' => e = .returned (.tuple #[]) ∧ w' = (wr.setCell ⟨g, 0, none⟩ (ptr it)).setCell ⟨it, 3, none⟩ (.int .i64 0) := lay_any wr B s S g c L I P' Q' 0 HW.out.hs it hit HW.out.lt
      clear h0
      go_wp2_with fail
      refine HL.mono ?_
      rintro e w2 ⟨rfl, hw2⟩
      have HR : Hid (RiseTo w w2 B s S g c L I P Q h it) := HW.out.rose hit hw2 (fun h1 => by omega) HK.out
      clear hw2 HL
      go_wp2
      go_end0
      exact ⟨rfl, HR.out⟩
/-- What sink leaves. -/
def SinkTo (w w' : World) (B : Own) (s : Nat) (S : Sd) (g c : Nat) (L : List Nat) (I : Nat → Itm) (P : Nat → Int) (Q : List Nat) (h it : Nat) : Prop :=
  ∃ P' Q', Fin w w' B s S g c L I P Q h it P' Q' ∧ Ord (un I) Q'
theorem Way.sunk {w0 w : World} {B : Own} {s : Nat} {S : Sd} {g c : Nat} {L : List Nat} {I : Nat → Itm} {P0 : Nat → Int} {Q0 : List Nat} {h0 it : Nat} {P : Nat → Int} {Q : List Nat} {h : Nat} (W : Way w0 w B s S g c L I P0 Q0 h0 it P Q h) (hit : it ∈ L) {w' : World} (hw : w' = (w.setCell ⟨g, h, none⟩ (ptr it)).setCell ⟨it, 3, none⟩ (.int .i64 h)) (ha : ahead I Q h it) (hk : kids I Q h it) : SinkTo w0 w' B s S g c L I P0 Q0 h0 it :=
  ⟨_, _, W.lay hit hw, W.gap.done W.lt ha hk⟩
/-- The sooner one of those behind a place. -/
structure Kid (I : Nat → Itm) (Q : List Nat) (h b : Nat) : Prop where
  lt : b < Q.length
  pos : 0 < b
  par : (b - 1) / 2 = h
  min : ∀ i, 0 < i → i < Q.length → (i - 1) / 2 = h → un I (at' Q b) ≤ un I (at' Q i)
set_option maxRecDepth 100000 in
theorem sink_any (w : World) (B : Own) (s : Nat) (S : Sd) (g c : Nat) (L : List Nat) (I : Nat → Itm) (P : Nat → Int) (Q : List Nat) (h it : Nat) (hW : Way w w B s S g c L I P Q h it P Q h) (hA : ahead I Q h it) (hit : it ∈ L) :
    Calls Tryz.prog 83 #[qp s, ptr it, .int .i64 h] w fun e w' => e = .returned (.tuple #[]) ∧ SinkTo w w' B s S g c L I P Q h it := by
  have HW0 : Hid (Way w w B s S g c L I P Q h it P Q h) := hW
  have HA0 : Hid (ahead I Q h it) := hA
  clear hW hA
  go_enter Tryz.func83, Tryz.ntmps83
  go_wp2
  go_loopg [2] (Q.length + 1) (fun gk pv wr => ∃ (h' : Nat) (P' : Nat → Int) (Q' : List Nat), pv = .int .i64 h' ∧ Q.length + 1 ≤ gk + h' ∧ Hid (Way w wr B s S g c L I P Q h it P' Q' h') ∧ Hid (ahead I Q' h' it))
  case atStart => exact ⟨h, P, Q, rfl, by omega, HW0, HA0⟩
  case round =>
    obtain ⟨h', P', Q', rfl, hg, HW, HA⟩ := hrel
    have hlen := HW.out.hs.few
    have hlt := HW.out.lt
    have hqq := HW.out.len
    obtain ⟨b1, hb1⟩ : ∃ b1 : Nat, 2 * (h' : Int) + 1 = (b1 : Nat) := ⟨2 * h' + 1, by omega⟩
    obtain ⟨b2, hb2⟩ : ∃ b2 : Nat, (b1 : Int) + 1 = (b2 : Nat) := ⟨b1 + 1, by omega⟩
    have e1 := HW.out.hs.head
    obtain ⟨n, hn⟩ : ∃ n, Q'.length = n := ⟨_, rfl⟩
    rw [hn] at e1 hlen hlt
    by_cases hk : b1 < n
    · obtain ⟨bh, tb, HB, hways⟩ : ∃ (bh : Nat) (tb : Bool), Hid (Kid I Q' h' bh) ∧ (bh = b1 ∧ tb = false ∧ (n ≤ b2 ∨ b2 < n ∧ un I (at' Q' b1) ≤ un I (at' Q' b2)) ∨ bh = b2 ∧ tb = true ∧ b2 < n ∧ un I (at' Q' b2) < un I (at' Q' b1)) := by
        have hkids : ∀ i, 0 < i → i < Q'.length → (i - 1) / 2 = h' → i = b1 ∨ i = b2 := fun i h1 h2 h3 => by omega
        by_cases h2 : b2 < n
        · by_cases h3 : un I (at' Q' b2) < un I (at' Q' b1)
          · refine ⟨b2, true, ⟨by omega, by omega, by omega, fun i i0 hi hp => ?_⟩, .inr ⟨rfl, rfl, h2, h3⟩⟩
            rcases hkids i i0 hi hp with rfl | rfl
            · exact Int.le_of_lt h3
            · exact Int.le_refl _
          · refine ⟨b1, false, ⟨by omega, by omega, by omega, fun i i0 hi hp => ?_⟩, .inl ⟨rfl, rfl, .inr ⟨h2, by omega⟩⟩⟩
            rcases hkids i i0 hi hp with rfl | rfl
            · exact Int.le_refl _
            · omega
        · refine ⟨b1, false, ⟨by omega, by omega, by omega, fun i i0 hi hp => ?_⟩, .inl ⟨rfl, rfl, .inl (by omega)⟩⟩
          rcases hkids i i0 hi hp with rfl | rfl
          · exact Int.le_refl _
          · omega
      go_upto_region 1 with fail
      go_cut [41] from 10 to 41 (fun v wx => v = .bool tb ∧ Hid (Below wr.heap.size wr wx))
      case first =>
        rcases hways with ⟨rfl, rfl, h2 | ⟨h2, h3⟩⟩ | ⟨rfl, rfl, h2, h3⟩
        · have hg1 : decide (b2 < n) = false := decide_eq_false (by omega)
          go_quiet (fail)
          have HB1 : Hid (Below wr.heap.size wr (wr.drewN nq)) := below_drewN wr nq
          generalize wr.drewN nq = w1 at HB1 ⊢
          go_wp2
          go_meet
          exact ⟨rfl, HB1⟩
        · have hg1 : decide (b2 < n) = true := decide_eq_true (by omega)
          have h2z : (b2 : Int) < n := by omega
          have hkz : (bh : Int) < n := by omega
          have e2 := HW.out.hs.cell (i := bh) (by omega) (by omega)
          have e3 := HW.out.hs.cell (i := b2) (by omega) (by omega)
          have e4 := HW.out.hs.its.cu (HW.out.hs.sub bh (by omega) (by omega))
          have e5 := HW.out.hs.its.cu (HW.out.hs.sub b2 (by omega) (by omega))
          generalize at' Q' bh = p1 at e2 e4 h3
          generalize at' Q' b2 = p2 at e3 e5 h3
          have hg2 : decide ((I p2).u < (I p1).u) = false := decide_eq_false (by show ¬ _; exact Int.not_lt.2 h3)
          clear h3
          go_quiet (fail)
          have HB1 : Hid (Below wr.heap.size wr (wr.drewN nq)) := below_drewN wr nq
          generalize wr.drewN nq = w1 at HB1 ⊢
          go_wp2
          go_meet
          exact ⟨rfl, HB1⟩
        · have hg1 : decide (bh < n) = true := decide_eq_true (by omega)
          have h2z : (bh : Int) < n := by omega
          have hkz : (b1 : Int) < n := by omega
          have e2 := HW.out.hs.cell (i := b1) (by omega) (by omega)
          have e3 := HW.out.hs.cell (i := bh) (by omega) (by omega)
          have e4 := HW.out.hs.its.cu (HW.out.hs.sub b1 (by omega) (by omega))
          have e5 := HW.out.hs.its.cu (HW.out.hs.sub bh (by omega) (by omega))
          generalize at' Q' b1 = p1 at e2 e4 h3
          generalize at' Q' bh = p2 at e3 e5 h3
          have hg2 : decide ((I p2).u < (I p1).u) = true := decide_eq_true h3
          clear h3
          go_quiet (fail)
          have HB1 : Hid (Below wr.heap.size wr (wr.drewN nq)) := below_drewN wr nq
          generalize wr.drewN nq = w1 at HB1 ⊢
          go_wp2
          go_meet
          exact ⟨rfl, HB1⟩
      case rest =>
        obtain ⟨rfl, HB1⟩ := hcut
        have HW1 : Hid (Way w wc B s S g c L I P Q h it P' Q' h') := HW.out.keep HB1.out
        clear e1 HB1
        have hbz : (bh : Int) < n := by have := HB.out.lt; omega
        have hbn : bh < n := by omega
        have hbne : bh ≠ h' := by have := HB.out.par; have := HB.out.pos; omega
        have HBL : Hid (h' < bh) := by have := HB.out.par; have := HB.out.pos; show _ < _; omega
        go_upto_if 41 with fail
        go_cut [6] from 42 to 43 (fun v wy => v = .int .i64 (bh : Nat) ∧ wc = wy)
        case first =>
          rcases hways with ⟨rfl, rfl, -⟩ | ⟨rfl, rfl, -⟩
          · go_wp2
            go_meet
            exact ⟨rfl, rfl⟩
          · go_wp2
            go_meet
            exact ⟨rfl, rfl⟩
        case rest =>
          obtain ⟨rfl, rfl⟩ := hcut
          clear hways
          have hng : decide (n ≤ bh) = false := decide_eq_false (by omega)
          have e1 := HW1.out.hs.head
          rw [hn] at e1
          have e2 := HW1.out.hs.cell (i := bh) (by omega) hbne
          have hr := HW1.out.hs.sub bh (by omega) hbne
          obtain ⟨r, hre⟩ : ∃ r, at' Q' bh = r := ⟨_, rfl⟩
          rw [hre] at e2 hr
          have e3 := HW1.out.hs.its.cu hr
          have e4 := HW1.out.hs.its.cu hit
          have HRE : Hid (at' Q' bh = r) := hre
          clear hre
          by_cases hc : (I it).u ≤ (I r).u
          · have HC : Hid ((I it).u ≤ (I r).u) := hc
            have hcz : decide ((I it).u ≤ (I r).u) = true := decide_eq_true hc
            clear hc
            go_upto_region 3 with fail
            go_quiet (fail)
            have HW2 : Hid (Way w (wc.drewN nq) B s S g c L I P Q h it P' Q' h') := HW1.out.keep (below_drewN wc nq)
            generalize wc.drewN nq = w1 at HW2 ⊢
            have HL := lay_any w1 B s S g c L I P' Q' h' HW2.out.hs it hit HW2.out.lt
            clear e1 e2 e3 e4
            go_wp2_with fail
            refine HL.mono ?_
            rintro e w2 ⟨rfl, hw2⟩
            have HR : Hid (SinkTo w w2 B s S g c L I P Q h it) := HW2.out.sunk hit hw2 HA.out (fun i i0 hi hp => by
              have := HB.out.min i i0 hi hp
              rw [HRE.out] at this
              exact Int.le_trans HC.out this)
            clear hw2 HL
            go_wp2
            go_end0
            exact ⟨rfl, HR.out⟩
          · have HC : Hid ((I r).u ≤ (I it).u) := by show _ ≤ _; omega
            have hcz : decide ((I it).u ≤ (I r).u) = false := decide_eq_false hc
            clear hc
            go_upto_region 3 with fail
            go_quiet (fail)
            have HW2 : Hid (Way w (wc.drewN nq) B s S g c L I P Q h it P' Q' h') := HW1.out.keep (below_drewN wc nq)
            generalize wc.drewN nq = w1 at HW2 ⊢
            have HL := lay_any w1 B s S g c L I P' Q' h' HW2.out.hs r hr HW2.out.lt
            clear e1 e2 e3 e4
            have e1 := HW2.out.hs.head
            rw [hn] at e1
            have e2 := HW2.out.hs.cell (i := bh) (by omega) hbne
            rw [HRE.out] at e2
            go_wp2_with fail
            refine HL.mono ?_
            rintro e w2 ⟨rfl, hw2⟩
            have HW3 : Hid (Way w w2 B s S g c L I P Q h it (upd P' r h') (Q'.set h' r) bh ∧ ahead I (Q'.set h' r) bh it) := by
              obtain ⟨h1, h3⟩ := HW2.out.gap.down (x := it) HB.out.pos HB.out.lt HB.out.par HB.out.min (by rw [HRE.out]; exact HC.out)
              have h2 := HW2.out.fill HB.out.lt hbne (w' := w2) (by rw [HRE.out]; exact hw2) h1
              rw [HRE.out] at h2 h3
              exact ⟨h2, h3⟩
            clear hw2 HL e1 e2
            have hbl := HBL.out
            go_wp2
            go_roundg (gk - 1)
            case measure => omega
            case rel => exact ⟨bh, _, _, rfl, by omega, HW3.out.1, HW3.out.2⟩
    · have hg1 : decide (b2 < n) = false := decide_eq_false (by omega)
      have hg2 : decide (n ≤ b1) = true := decide_eq_true (by omega)
      go_upto_region 1 with fail
      go_quiet (fail)
      have HW1 : Hid (Way w (wr.drewN nq) B s S g c L I P Q h it P' Q' h') := HW.out.keep (below_drewN wr nq)
      generalize wr.drewN nq = w1 at HW1 ⊢
      clear e1
      have e1 := HW1.out.hs.head
      rw [hn] at e1
      go_upto_region 3 with fail
      go_quiet (fail)
      have HW2 : Hid (Way w (w1.drewN nq) B s S g c L I P Q h it P' Q' h') := HW1.out.keep (below_drewN w1 nq)
      generalize w1.drewN nq = w2 at HW2 ⊢
      have HL := lay_any w2 B s S g c L I P' Q' h' HW2.out.hs it hit HW2.out.lt
      clear e1
      go_wp2_with fail
      refine HL.mono ?_
      rintro e w3 ⟨rfl, hw3⟩
      have HR : Hid (SinkTo w w3 B s S g c L I P Q h it) := HW2.out.sunk hit hw3 HA.out (fun i i0 hi hp => by omega)
      clear hw3 HL
      go_wp2
      go_end0
      exact ⟨rfl, HR.out⟩
theorem at_left {D : List Nat} {l i : Nat} (h : i < D.length) : at' (D ++ [l]) i = at' D i := by
  unfold at'
  rw [List.getD_eq_getElem?_getD, List.getD_eq_getElem?_getD, List.getElem?_append_left h]
theorem at_last (D : List Nat) (l : Nat) : at' (D ++ [l]) D.length = l := by
  unfold at'
  rw [List.getD_eq_getElem?_getD]
  simp
theorem set_at {Q : List Nat} {h : Nat} (hl : h < Q.length) : Q.set h (at' Q h) = Q := by
  unfold at'
  rw [List.getD_eq_getElem?_getD, List.getElem?_eq_getElem hl]
  exact List.set_getElem_self hl
theorem mem_swap {P : Nat → Int} {D : List Nat} {l j : Nat} (hn : Plcs P (D ++ [l])) (hj : j < D.length) (q : Nat) : q ∈ D.set j l ↔ q ≠ at' D j ∧ q ∈ D ++ [l] := by
  have hl : (D ++ [l]).length = D.length + 1 := by simp
  constructor
  · intro h
    rcases mem_set hj h with rfl | ⟨i, hi, hne, rfl⟩
    · refine ⟨fun e => ?_, by simp⟩
      have := hn.inj (i := D.length) (j := j) (by omega) (by omega) (by rw [at_last, at_left hj]; exact e)
      omega
    · refine ⟨fun e => ?_, List.mem_append_left _ (at_mem hi)⟩
      exact hne (hn.inj (i := i) (j := j) (by omega) (by omega) (by rw [at_left hi, at_left hj]; exact e))
  · rintro ⟨h1, h2⟩
    rcases List.mem_append.1 h2 with h2 | h2
    · obtain ⟨i, hi, rfl⟩ := at_ex h2
      have hne : i ≠ j := fun e => h1 (by rw [e])
      have := at_mem (Q := D.set j l) (i := i) (by rw [List.length_set]; exact hi)
      rw [at_ne hne] at this
      exact this
    · rw [List.mem_singleton] at h2
      subst h2
      have := at_mem (Q := D.set j q) (i := j) (by rw [List.length_set]; exact hj)
      rw [at_eq rfl hj] at this
      exact this
theorem Tryz.sizeI (w : World) : (sizeOf 70).run Tryz.prog w = .ok 1 w := by go_simp
theorem Tryz.elemI : Tryz.prog.elem 73 = 70 := by simp [Program.elem, Tryz.underlying73]
theorem slice_hi (g n c hi : Nat) (h1 : hi ≤ c) :
    ∀ wx, (Instr.sliceAt 73 (.slice (some ⟨g, 0, none⟩) n c) none (some (.int .i64 hi)) none).run Tryz.prog wx = .ok (.slice (some ⟨g, 0, none⟩) hi c) wx := by
  have ht : Tryz.prog.underlying 73 = some (.slice (Tryz.prog.elem 73)) := by rw [Tryz.elemI]; exact Tryz.underlying73
  intro wx
  rw [run_sliceAt_slice _ _ _ _ _ _ ht, run_slice_h (P := Tryz.prog) wx 73 _ n c ht .i64 hi (by omega) (by omega), Tryz.elemI, Tryz.sizeI]
  simp [Result.andThen, sliced, add_flat]
theorem Tryz.infoI : (Tryz.prog.info? 70).map (fun i => (i.zero, i.size, i.bytes)) = some (some (.pointer none), 1, 8) := by kernel_rfl
theorem Tryz.infoJ : (Tryz.prog.info? 100).map (fun i => i.size) = some 4 := by kernel_rfl
theorem infoJ_ex : ∃ j, Tryz.prog.info? 100 = some j ∧ j.size ≠ 0 := by
  have h := Tryz.infoJ
  cases hj : Tryz.prog.info? 100 with
  | none => rw [hj] at h; cases h
  | some j =>
    rw [hj] at h
    refine ⟨j, rfl, ?_⟩
    have : j.size = 4 := Option.some.inj h
    omega
theorem neqI_same (w : World) (k : Nat) : (binOp .neq 70 (ptr k) (ptr k)).run Tryz.prog w = .ok (.bool false) w := by
  obtain ⟨j, hj, -⟩ := infoJ_ex
  exact Lib.run_neq_ptr_same w ⟨k, 0, none⟩ Tryz.underlying70 hj
theorem neqI_other {w : World} {k q : Nat} {ca cb : Array Value} {ta tb : TypeId} (h : k ≠ q) (ha : w.heap[k]? = some (.cells ca ta (0, 0))) (hb : w.heap[q]? = some (.cells cb tb (0, 0))) : (binOp .neq 70 (ptr k) (ptr q)).run Tryz.prog w = .ok (.bool true) w := by
  obtain ⟨j, hj, hs⟩ := infoJ_ex
  have hne : (⟨k, 0, none⟩ : Addr) ≠ ⟨q, 0, none⟩ := by intro e; injection e with e1; exact h e1
  have hh : ∀ d : Nat, (Op.equalIn (d + 1) 70 (ptr k) (ptr q)).run Tryz.prog w = .ok false w := fun d => by
    simp [Op.equalIn, run_underlying Tryz.underlying70, sizeOf, typeInfo, hj, hs, run_sameAddr_other w hne ha hb]
  simp only [binOp]
  simp [Op.equal, Op.maxDepth, hh 9999]
/-- A bool came back that tells whether this holds. -/
def Tells (e : Ending) (P : Prop) : Prop := ∃ r : Bool, e = .returned (.bool r) ∧ (r = true ↔ P)
theorem Tells.yes {P : Prop} (h : P) : Tells (.returned (.bool true)) P := ⟨true, rfl, fun _ => h, fun _ => rfl⟩
theorem Tells.no {P : Prop} (h : ¬ P) : Tells (.returned (.bool false)) P := ⟨false, rfl, fun h1 => (by cases h1), fun h1 => absurd h1 h⟩
theorem isDue_any (w : World) (B : Own) (s : Nat) (S : Sd) (L : List Nat) (I : Nat → Itm) (P : Nat → Int) (Q : List Nat) (H : Qs w B s S L I P Q) (t : Int) :
    Calls Tryz.prog 77 #[qp s, .int .i64 t] w fun e w' => w' = w ∧ Tells e (0 < Q.length ∧ (I (at' Q 0)).u ≤ t) := by
  obtain ⟨a, c, e1⟩ := H.head
  have hle := H.le
  by_cases h0 : 0 < Q.length
  · obtain ⟨g, c', hH⟩ := H.hs h0 Q.length
    have HF := first_any w B s S g c' L I P Q Q.length hH h0 (by omega)
    have e3 := H.its.cu (H.sub _ (at_mem h0))
    have hz : (0 : Int) < Q.length := by omega
    clear hH H
    generalize at' Q 0 = p at HF e3 ⊢
    generalize Q.length = n at e1 h0 hz hle ⊢
    by_cases hu : (I p).u ≤ t
    · have HU : Hid ((I p).u ≤ t) := hu
      have hd : decide ((I p).u ≤ t) = true := decide_eq_true hu
      clear hu
      generalize (I p).u = u at *
      go_enter Tryz.func77, Tryz.ntmps77
      go_wp2_with fail
      refine HF.mono ?_
      rintro e w ⟨rfl, rfl⟩
      go_wp2
      go_ret
      exact ⟨rfl, Tells.yes ⟨h0, HU.out⟩⟩
    · have HU : Hid (t < (I p).u) := Int.not_le.1 hu
      have hd : decide ((I p).u ≤ t) = false := decide_eq_false hu
      clear hu
      generalize (I p).u = u at *
      go_enter Tryz.func77, Tryz.ntmps77
      go_wp2_with fail
      refine HF.mono ?_
      rintro e w ⟨rfl, rfl⟩
      go_wp2
      go_ret
      exact ⟨rfl, Tells.no fun h => absurd h.2 (Int.not_le.2 HU.out)⟩
  · have hn : Q.length = 0 := by omega
    rw [hn] at e1
    clear H
    go_enter Tryz.func77, Tryz.ntmps77
    go_wp2
    go_ret
    exact ⟨rfl, Tells.no fun h => absurd h.1 h0⟩
/-- The row without its last. -/
theorem Hs.cut {w : World} {B : Own} {s : Nat} {S : Sd} {g c : Nat} {L : List Nat} {I : Nat → Itm} {P : Nat → Int} {D : List Nat} {l h : Nat} (H : Hs w B s S g c L I P (D ++ [l]) (D ++ [l]).length) {w2 : World} (hw : w2 = (w.setCell ⟨g, D.length, none⟩ (.pointer none)).setCell ⟨s, 4, none⟩ (.slice (some ⟨g, 0, none⟩) D.length c)) :
    Hs w2 B s S g c L I P D h ∧ Mb qtag B w w2 := by
  obtain ⟨cur, k1, k2, k3⟩ := H.row.ex
  have hl : (D ++ [l]).length = D.length + 1 := by simp
  have hsg : s ≠ g := tag_ne H.blk k1 (by decide)
  have n1 : (w.setCell ⟨g, D.length, none⟩ (.pointer none)).heap[s]? = some (.cells (scells S (.slice (some ⟨g, 0, none⟩) (D ++ [l]).length c)) 77 (0, 0)) := by rw [heap_ne hsg]; exact H.blk
  subst hw
  refine ⟨⟨?_, ⟨⟨cur.setIfInBounds D.length (.pointer none), ?_, by rw [Array.size_setIfInBounds]; exact k2, ?_⟩, by have := H.row.le; omega, H.row.mx, H.row.low⟩, ?_, ?_, ?_, H.low, by have := H.few; omega⟩, (Mb.set k1 (by decide) H.row.low).trans (Mb.set n1 (by decide) H.low)⟩
  · rw [heap_set n1]; rfl
  · rw [heap_ne (Ne.symm hsg), heap_set k1]
  · intro i hi _
    rw [Array.getElem?_setIfInBounds_ne (by omega), k3 i (by omega) (by omega), at_left hi]
  · intro p hp
    refine ⟨(H.its p hp).1, ?_⟩
    rw [heap_ne (Ne.symm (tag_ne H.blk (H.its p hp).2 (by decide))), heap_ne (Ne.symm (tag_ne k1 (H.its p hp).2 (by decide)))]
    exact (H.its p hp).2
  · intro i hi _
    have := H.sub i (by omega) (by omega)
    rwa [at_left hi] at this
  · intro i hi _
    have := H.plc i (by omega) (by omega)
    rwa [at_left hi] at this
/-- What drop leaves. -/
def DropTo (w w' : World) (B : Own) (s : Nat) (S : Sd) (L : List Nat) (I : Nat → Itm) (Q : List Nat) (p : Nat) : Prop := Mb qtag B w w' ∧ ∃ P' Q', Qs w' B s S L I P' Q' ∧ ∀ q, q ∈ Q' ↔ q ≠ p ∧ q ∈ Q
theorem drop_no (w : World) (B : Own) (s : Nat) (S : Sd) (L : List Nat) (I : Nat → Itm) (P : Nat → Int) (Q : List Nat) (H : Qs w B s S L I P Q) (p : Nat) (hp : p ∈ L) (hq : p ∉ Q) :
    Calls Tryz.prog 37 #[qp s, ptr p] w fun e w' => e = .returned (.tuple #[]) ∧ w' = w := by
  have e1 := H.its.cp hp
  rw [H.out p hp hq] at e1
  have HT := isTimed_any w p _ e1
  rw [decide_eq_false (by decide)] at HT
  clear H
  go_enter Tryz.func37, Tryz.ntmps37
  go_wp2_with fail
  refine HT.mono ?_
  rintro e w ⟨rfl, rfl⟩
  go_wp2
  (try simp only [Exit.inBlock, Exit.then])
  refine bodyPost_ret (results_none rfl _ _ _) rfl ?_
  exact ⟨rfl, rfl⟩
/-- The item's place is taken away at the end. -/
theorem Fin.away {w0 w : World} {B : Own} {s : Nat} {S : Sd} {g c : Nat} {L : List Nat} {I : Nat → Itm} {P0 P : Nat → Int} {Q0 Q : List Nat} {h0 it p : Nat} (F : Fin w0 w B s S g c L I P0 Q0 h0 it P Q) (ho : Ord (un I) Q) (hp : p ∈ L) (hpn : p ∉ Q0.set h0 it) (hout : ∀ q ∈ L, q ∉ Q0.set h0 it → q ≠ p → P0 q = -1) (hn : L.Nodup) (hf : L.length ≤ 1000000) {w' : World} (hw : w' = w.setCell ⟨p, 3, none⟩ (.int .i64 (-1))) : Qs w' B s S L I (upd P p (-1)) Q ∧ Mb qtag B w0 w' := by
  have hI := F.hs.its p hp
  have hpq : p ∉ Q := fun h => hpn (F.perm.mem_iff.1 h)
  obtain ⟨cur, k1, k2⟩ := F.hs.row.ex
  subst hw
  have h1 : Hs (w.setCell ⟨p, 3, none⟩ (.int .i64 (-1))) B s S g c L I (upd P p (-1)) Q Q.length := by
    refine ⟨?_, ⟨⟨cur, ?_, k2⟩, F.hs.row.le, F.hs.row.mx, F.hs.row.low⟩, F.hs.its.place hp (-1), F.hs.sub, fun i hi hne => ?_, F.hs.low, F.hs.few⟩
    · rw [heap_ne (tag_ne F.hs.blk hI.2 (by decide))]; exact F.hs.blk
    · rw [heap_ne (tag_ne k1 hI.2 (by decide))]; exact k1
    · rw [upd_ne]
      · exact F.hs.plc i hi hne
      · exact fun e => hpq (by rw [← e]; exact at_mem hi)
  refine ⟨h1.qs ho (fun q hq hqn => ?_) hn hf, F.mv.trans (Mb.set hI.2 (by decide) hI.1)⟩
  by_cases e : q = p
  · rw [e, upd_eq]
  · rw [upd_ne _ _ e]
    have hqn' : q ∉ Q0.set h0 it := fun h => hqn (F.perm.mem_iff.2 h)
    rw [F.out q hqn']
    exact hout q hq hqn' e
set_option maxRecDepth 100000 in
theorem drop_yes (w : World) (B : Own) (s : Nat) (S : Sd) (L : List Nat) (I : Nat → Itm) (P : Nat → Int) (Q : List Nat) (H : Qs w B s S L I P Q) (p : Nat) (hp : p ∈ L) (hq : p ∈ Q) :
    Calls Tryz.prog 37 #[qp s, ptr p] w fun e w' => e = .returned (.tuple #[]) ∧ DropTo w w' B s S L I Q p := by
  have h0 : 0 < Q.length := List.length_pos_of_mem hq
  obtain ⟨j, hj, hjp⟩ := at_ex hq
  have hpj := H.plc j hj
  rw [hjp] at hpj
  have e1 := H.its.cp hp
  rw [hpj] at e1
  have HT := isTimed_any w p _ e1
  rw [decide_eq_true (by omega)] at HT
  obtain ⟨g, c, hH⟩ := H.hs h0 Q.length
  obtain ⟨D, l, rfl⟩ : ∃ D l, Q = D ++ [l] := ⟨Q.dropLast, Q.getLast (by intro e; rw [e] at h0; simp at h0), (List.dropLast_concat_getLast _).symm⟩
  have hlen : (D ++ [l]).length = D.length + 1 := by simp
  have HQ : Hid (Qs w B s S L I P (D ++ [l])) := H
  have hl : l ∈ L := H.sub l (by simp)
  have e2 := hH.head
  have e3 := hH.cell (i := D.length) (by omega) (by omega)
  rw [at_last] at e3
  have e4 := hH.fz D.length
  obtain ⟨n, hn⟩ : ∃ n, D.length = n := ⟨_, rfl⟩
  have hfew := hH.few
  have hc := hH.row.le
  rw [hlen] at e2 hfew hc hj
  obtain ⟨cur, k1, -⟩ := hH.row.ex
  obtain ⟨w1, hw1⟩ : ∃ w1, w.setCell ⟨g, n, none⟩ (.pointer none) = w1 := ⟨_, rfl⟩
  obtain ⟨w2, hw2⟩ : ∃ w2, w1.setCell ⟨s, 4, none⟩ (.slice (some ⟨g, 0, none⟩) n c) = w2 := ⟨_, rfl⟩
  have hs1 : w1.heap[s]? = some (.cells (scells S (.slice (some ⟨g, 0, none⟩) (D.length + 1) c)) 77 (0, 0)) := by
    rw [← hw1, heap_ne (tag_ne hH.blk k1 (by decide)), hH.blk, hlen]
  have f1 : w1.cell? ⟨s, 4, none⟩ = some (.slice (some ⟨g, 0, none⟩) (D.length + 1) c) := by simp [World.cell?, hs1]
  have f2 : w1.frozen? ⟨s, 4, none⟩ = false := by simp [World.frozen?, hs1]
  have hcut := fun h => hH.cut (h := h) (w2 := w2) (by rw [← hw2, ← hw1, hn])
  have hsl := slice_hi g (n + 1) c n (by omega)
  rw [hn] at e2 e3 e4 f1 hj hfew hc
  have HC : Hid (∀ h, Hs w2 B s S g c L I P D h ∧ Mb qtag B w w2) := hcut
  have HPl : Hid (at' (D ++ [l]) j = p) := hjp
  have HN : Hid (D.length = n) := hn
  clear hcut hjp hn hs1 k1 hH H hpj
  have g1 := (HC.out (n + 1)).1.its.cp hp
  rw [show P p = j from by have := HQ.out.plc j (by rw [hlen, HN.out]; omega); rw [HPl.out] at this; exact this] at g1
  have g3 := (HC.out (n + 1)).1.its.fz hp 3
  have hnz : ((n : Nat) : Int) + 1 - 1 = n := by omega
  by_cases hlp : l = p
  · subst hlp
    have hnq := neqI_same w2 l
    have HE : Hid (DropTo w (w2.setCell ⟨l, 3, none⟩ (.int .i64 (-1))) B s S L I (D ++ [l]) l) := by
      obtain ⟨h1, h2⟩ := HC.out D.length
      have hnd := HQ.out.plc.nod
      rw [List.nodup_append] at hnd
      have hld : l ∉ D := fun h => hnd.2.2 l h l (by simp) rfl
      have hI := h1.its l hl
      obtain ⟨cur2, k1, k2⟩ := h1.row.ex
      refine ⟨h2.trans (Mb.set hI.2 (by decide) hI.1), upd P l (-1), D, ?_, fun q => ⟨fun h => ⟨fun e => hld (by rw [← e]; exact h), List.mem_append_left _ h⟩, fun h => ?_⟩⟩
      · refine Hs.qs (g := g) (c := c) ⟨?_, ⟨⟨cur2, ?_, k2⟩, h1.row.le, h1.row.mx, h1.row.low⟩, h1.its.place hl (-1), h1.sub, fun i hi hne => ?_, h1.low, h1.few⟩ HQ.out.ord.cut (fun q hq hqn => ?_) HQ.out.nod HQ.out.few
        · rw [heap_ne (tag_ne h1.blk hI.2 (by decide))]; exact h1.blk
        · rw [heap_ne (tag_ne k1 hI.2 (by decide))]; exact k1
        · rw [upd_ne]
          · exact h1.plc i hi hne
          · exact fun e => hld (by rw [← e]; exact at_mem hi)
        · by_cases e : q = l
          · rw [e, upd_eq]
          · rw [upd_ne _ _ e]
            exact HQ.out.out q hq (fun h => (List.mem_append.1 h).elim hqn (fun h => e (List.mem_singleton.1 h)))
      · rcases List.mem_append.1 h.2 with h3 | h3
        · exact h3
        · exact absurd (List.mem_singleton.1 h3) h.1
    go_enter Tryz.func37, Tryz.ntmps37
    go_wp2_with fail
    refine HT.mono ?_
    rintro e w ⟨rfl, rfl⟩
    go_wp2
    go_end0
    exact ⟨rfl, HE.out⟩
  · have hjn : j < n := by
      rcases Nat.lt_or_ge j n with h | h
      · exact h
      · exfalso
        obtain rfl : j = n := by omega
        have := HPl.out
        rw [← HN.out, at_last] at this
        exact hlp this
    have HI2 := fun q (hq : q ∈ L) => (HC.out j).1.its q hq
    have hnq := neqI_other hlp (HI2 l hl).2 (HI2 p hp).2
    have HW0 : Hid (Way w2 w2 B s S g c L I P D j l P D j) := by
      obtain ⟨h1, h2⟩ := HC.out j
      refine ⟨h1, HQ.out.ord.cut.gapAt j (by rw [HN.out]; exact hjn), by rw [HN.out]; exact hjn, fun i hi _ e => ?_, List.Perm.refl _, fun _ _ => rfl, Mb.refl _ _ _⟩
      have h3 := HQ.out.plc.inj (i := i) (j := D.length) (by rw [hlen]; omega) (by rw [hlen]; omega) (by rw [at_left hi, at_last]; exact e)
      omega
    have HR := rise_any w2 B s S g c L I P D j l HW0.out hl
    have HL : Hid (l ≠ p) := hlp
    clear HI2 hlp
    go_enter Tryz.func37, Tryz.ntmps37
    go_wp2_with fail
    refine HT.mono ?_
    rintro e w ⟨rfl, rfl⟩
    go_wp2_with fail
    refine HR.mono ?_
    rintro e w3 ⟨rfl, P', Q', h', hF, hlt, hat, hpl, hgap, hah, -⟩
    have HF : Hid (Fin w2 w3 B s S g c L I P D j l P' Q') := hF
    have m1 := hF.hs.its.cp hl
    rw [hpl] at m1
    have hset : Q'.set h' l = Q' := by rw [← hat]; exact set_at hlt
    have HSet : Hid (Q'.set h' l = Q') := hset
    have hW1 : Way w3 w3 B s S g c L I P' Q' h' l P' Q' h' := by
      refine ⟨⟨hF.hs.blk, ?_, hF.hs.its, fun i hi _ => hF.hs.sub i hi (by omega), fun i hi _ => hF.hs.plc i hi (by omega), hF.hs.low, hF.hs.few⟩, hgap, hlt, fun i hi hne e => ?_, List.Perm.refl _, fun _ _ => rfl, Mb.refl _ _ _⟩
      · obtain ⟨cur, k1, k2, k3⟩ := hF.hs.row.ex
        exact ⟨⟨cur, k1, k2, fun i hi _ => k3 i hi (by omega)⟩, hF.hs.row.le, hF.hs.row.mx, hF.hs.row.low⟩
      · have h3 := hF.hs.plc i hi (by omega)
        rw [e, hpl] at h3
        omega
    have HS := sink_any w3 B s S g c L I P' Q' h' l hW1 hah hl
    clear hF hgap hah hlt hat hpl hset hW1 HR hnq
    go_wp2_with fail
    refine HS.mono ?_
    rintro e w4 ⟨rfl, P2, Q2, hF2, hord⟩
    have hF3 := HF.out.ofWay hF2 HSet.out
    have m3 := hF3.hs.its.cp hp
    have m4 := hF3.hs.its.fz hp 3
    have HE : Hid (DropTo w (w4.setCell ⟨p, 3, none⟩ (.int .i64 (-1))) B s S L I (D ++ [l]) p) := by
      have hjD : j < D.length := by rw [HN.out]; exact hjn
      have hpe : at' D j = p := by have := HPl.out; rwa [at_left hjD] at this
      have hsw := mem_swap HQ.out.plc hjD
      rw [hpe] at hsw
      obtain ⟨k1, k2⟩ := hF3.away hord hp (fun h => ((hsw p).1 h).1 rfl) (fun q hq hqn hqp => HQ.out.out q hq (fun h => hqn ((hsw q).2 ⟨hqp, h⟩))) HQ.out.nod HQ.out.few rfl
      exact ⟨(HC.out j).2.trans k2, _, Q2, k1, fun q => (hF3.perm.mem_iff).trans (hsw q)⟩
    clear hF2 hord hF3 HS m1
    go_wp2
    go_end0
    exact ⟨rfl, HE.out⟩
theorem drop_any (w : World) (B : Own) (s : Nat) (S : Sd) (L : List Nat) (I : Nat → Itm) (P : Nat → Int) (Q : List Nat) (H : Qs w B s S L I P Q) (p : Nat) (hp : p ∈ L) :
    Calls Tryz.prog 37 #[qp s, ptr p] w fun e w' => e = .returned (.tuple #[]) ∧ DropTo w w' B s S L I Q p := by
  by_cases hq : p ∈ Q
  · exact drop_yes w B s S L I P Q H p hp hq
  · refine (drop_no w B s S L I P Q H p hp hq).mono ?_
    rintro e w' ⟨rfl, rfl⟩
    exact ⟨rfl, Mb.refl _ _ _, P, Q, H, fun q => ⟨fun h => ⟨fun e => hq (by rw [← e]; exact h), h⟩, fun h => h.2⟩⟩
end Go.Proofs.YtnajhjmdpaeelaaGreatDoor.Sq
