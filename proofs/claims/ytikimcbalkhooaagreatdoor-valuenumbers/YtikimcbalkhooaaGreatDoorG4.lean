/- Texts that the others stand on. -/
import Derived.Test.YtikimcbalkhooaaGreatDoorG1
import Derived.Lib.Builder
import Derived.Deep.RegionHeld3
import Derived.Deep.OwnRows
import Derived.Laws.AppendOwnNone
import Derived.Laws.Rows
import Derived.Laws.Tables
namespace Go.Proofs.YtikimcbalkhooaaGreatDoor
open Go.RowKit Go.PlainAid
/-- All is as it was, but for the blocks of M and what is new. -/
structure Stay (w w' : World) (M : List Nat) : Prop where
  os : w'.os = w.os
  tape : w'.tape = w.tape
  output : w'.output = w.output
  size : w.heap.size ≤ w'.heap.size
  block : ∀ k, k < w.heap.size → k ∉ M → w'.heap[k]? = w.heap[k]?
theorem Stay.of_below {w w' : World} (h : Below w.heap.size w w') (M : List Nat) : Stay w w' M := ⟨h.os, h.tape, h.output, h.size, fun k hk _ => h.block k hk⟩
theorem Stay.trans {w w1 w2 : World} {M M' : List Nat} (h : Stay w w1 M) (k : Stay w1 w2 M') (hM : ∀ i ∈ M', i ∈ M ∨ w.heap.size ≤ i) : Stay w w2 M :=
  ⟨k.os.trans h.os, k.tape.trans h.tape, k.output.trans h.output, Nat.le_trans h.size k.size, fun i hi hn =>
    (k.block i (Nat.lt_of_lt_of_le hi h.size) (fun hm => (hM i hm).elim hn (fun h1 => by omega))).trans (h.block i hi hn)⟩
theorem Stay.mono {w w' : World} {M M' : List Nat} (h : Stay w w' M) (hM : ∀ i ∈ M, i ∈ M') : Stay w w' M' :=
  ⟨h.os, h.tape, h.output, h.size, fun k hk hn => h.block k hk (fun hm => hn (hM k hm))⟩
theorem Stay.below {w w' : World} {M : List Nat} {B : Nat} (h : Stay w w' M) (hM : ∀ i ∈ M, B ≤ i) (hB : B ≤ w.heap.size) : Below B w w' :=
  ⟨h.os, h.tape, h.output, h.size, fun k hk => h.block k (Nat.lt_of_lt_of_le hk hB) (fun hm => by have := hM k hm; omega)⟩
theorem Stay.set {w : World} {q o : Nat} {v : Value} : Stay w (w.setCell ⟨q, o, none⟩ v) [q] :=
  ⟨rfl, rfl, rfl, by simp [World.setCell], fun k _ h1 => Below.heap_setCell _ _ _ _ (by simpa using h1)⟩
/-- A node: where it lies, where its pack and the row of that; its texts. -/
structure Nd where
  a : Nat
  p : Nat
  r : Option Addr
  n : Nat
  c : Nat
  ls : List ByteArray
def Nd.fp (d : Nd) : List Nat := d.a :: d.p :: (d.r.map (·.block)).toList
def fpN (ns : List Nd) : List Nat := ns.flatMap Nd.fp
def txN (ns : List Nd) : List ByteArray := ns.flatMap Nd.ls
def adr (ns : List Nd) : List Nat := ns.map Nd.a
theorem fpN_append (a b : List Nd) : fpN (a ++ b) = fpN a ++ fpN b := List.flatMap_append ..
theorem fpN_cons (d : Nd) (b : List Nd) : fpN (d :: b) = d.fp ++ fpN b := List.flatMap_cons ..
theorem txN_cons (d : Nd) (b : List Nd) : txN (d :: b) = d.ls ++ txN b := List.flatMap_cons ..
theorem adr_append (a b : List Nd) : adr (a ++ b) = adr a ++ adr b := List.map_append ..
theorem adr_cons (d : Nd) (b : List Nd) : adr (d :: b) = d.a :: adr b := List.map_cons ..
theorem mem_fpN {ns : List Nd} {d : Nd} (h : d ∈ ns) {k : Nat} (hk : k ∈ d.fp) : k ∈ fpN ns := List.mem_flatMap.2 ⟨d, h, hk⟩
theorem adr_fpN {ns : List Nd} {k : Nat} (h : k ∈ adr ns) : k ∈ fpN ns := by
  obtain ⟨d, hd, rfl⟩ := List.mem_map.1 h
  exact mem_fpN hd (by simp [Nd.fp])
theorem adr_sub : ∀ ns : List Nd, (adr ns).Sublist (fpN ns)
  | [] => List.Sublist.slnil
  | d :: r => by
    rw [adr_cons, fpN_cons]
    show (d.a :: adr r).Sublist (d.a :: (d.p :: (d.r.map (·.block)).toList ++ fpN r))
    exact ((adr_sub r).trans (List.sublist_append_right _ _)).cons_cons _
/-- Where the first one lies, or the ring; where the last one. -/
def hdA (R : Nat) : List Nd → Nat
  | [] => R
  | d :: _ => d.a
def laA (R : Nat) (ns : List Nd) : Nat := match ns.getLast? with
  | none => R
  | some d => d.a
theorem laA_snoc (R : Nat) (ns : List Nd) (d : Nd) : laA R (ns ++ [d]) = d.a := by unfold laA; rw [List.getLast?_concat]
theorem snoc_ex (ns : List Nd) : ns = [] ∨ ∃ k d, ns = k ++ [d] := by
  rcases List.eq_nil_or_concat ns with h | ⟨k, d, h⟩
  · exact .inl h
  · exact .inr ⟨k, d, by rw [h, List.concat_eq_append]⟩
/-- The ring's row parts at a gap. -/
theorem fore_ex (R : Nat) (l1 : List Nd) : ∃ X, R :: adr l1 = X ++ [laA R l1] := by
  rcases snoc_ex l1 with rfl | ⟨k, d, rfl⟩
  · exact ⟨[], rfl⟩
  · exact ⟨R :: adr k, by rw [laA_snoc, adr_append]; rfl⟩
theorem back_ex (R : Nat) (l2 : List Nd) : ∃ Y, adr l2 ++ [R] = hdA R l2 :: Y := by
  cases l2 with
  | nil => exact ⟨[], rfl⟩
  | cons d r => exact ⟨adr r ++ [R], rfl⟩
/-- Neighbours know each other. -/
def Adj (w : World) : List Nat → Prop
  | u :: v :: r => (w.cell? ⟨u, 2, none⟩ = some (ptr v) ∧ w.cell? ⟨v, 1, none⟩ = some (ptr u)) ∧ Adj w (v :: r)
  | _ => True
theorem Adj_append (w : World) (u : Nat) (Z : List Nat) : ∀ X : List Nat, Adj w (X ++ u :: Z) ↔ Adj w (X ++ [u]) ∧ Adj w (u :: Z)
  | [] => by simp [Adj]
  | [x] => by simp [Adj]
  | x :: y :: r => by
    have := Adj_append w u Z (y :: r)
    simp only [List.cons_append] at this ⊢
    simp only [Adj]
    rw [this]
    simp only [and_assoc]
theorem Adj_congr {w w' : World} : ∀ L : List Nat, (∀ k ∈ L.dropLast, w'.cell? ⟨k, 2, none⟩ = w.cell? ⟨k, 2, none⟩) → (∀ k ∈ L.tail, w'.cell? ⟨k, 1, none⟩ = w.cell? ⟨k, 1, none⟩) → Adj w L → Adj w' L
  | [], _, _, _ => trivial
  | [_], _, _, _ => trivial
  | u :: v :: r, h1, h2, h => by
    refine ⟨⟨?_, ?_⟩, Adj_congr (v :: r) (fun k hk => h1 k (by rw [List.dropLast_cons_cons]; exact List.mem_cons_of_mem _ hk)) (fun k hk => h2 k (List.mem_cons_of_mem _ hk)) h.2⟩
    · rw [h1 u (by rw [List.dropLast_cons_cons]; simp)]; exact h.1.1
    · rw [h2 v (by simp)]; exact h.1.2
/-- A node in memory. -/
structure Nod (w : World) (B : Nat) (d : Nd) : Prop where
  blk : ∃ x y, w.heap[d.a]? = some (.cells #[ptr d.p, x, y] 96 (0, 0))
  pk : Pk w B d.p d.r d.n d.c d.ls
  fit : Fit d.ls
  siz : d.n ≤ 65536
  low : B ≤ d.a
theorem Nod.lt {w : World} {B : Nat} {d : Nd} (h : Nod w B d) : d.a < w.heap.size := by
  obtain ⟨x, y, e⟩ := h.blk
  exact (Array.getElem?_eq_some_iff.1 e).1
theorem Nod.fplt {w : World} {B : Nat} {d : Nd} (h : Nod w B d) : ∀ k ∈ d.fp, B ≤ k ∧ k < w.heap.size := by
  intro k hk
  rcases List.mem_cons.1 hk with rfl | hk
  · exact ⟨h.low, h.lt⟩
  rcases List.mem_cons.1 hk with rfl | hk
  · exact ⟨h.pk.low, h.pk.lt⟩
  · rw [Option.mem_toList] at hk
    exact h.pk.own.lt k (by rw [← hk]; cases d.r <;> rfl)
theorem Own.stay {w w' : World} {B : Nat} {a : Option Addr} {n c : Nat} {l : List UInt8} {M : List Nat} (h : Own w B a n c l) (hs : Stay w w' M) (hd : ∀ k ∈ (a.map (·.block)).toList, k ∉ M) : Own w' B a n c l := by
  refine ⟨h.1, ?_⟩
  rcases h.2 with h2 | ⟨g, c', cur, h1, h3, h4, h5⟩
  · exact .inl h2
  · refine .inr ⟨g, c', cur, h1, h3, ?_, h5⟩
    rw [hs.block g (Array.getElem?_eq_some_iff.1 h4).1 (hd g (by injection h1 with e1; rw [e1]; simp))]
    exact h4
theorem Pk.stay {w w' : World} {B p : Nat} {a : Option Addr} {n c : Nat} {ls : List ByteArray} {M : List Nat} (h : Pk w B p a n c ls) (hs : Stay w w' M) (hp : p ∉ M) (hd : ∀ k ∈ (a.map (·.block)).toList, k ∉ M) : Pk w' B p a n c ls :=
  ⟨by rw [hs.block p h.lt hp]; exact h.blk, h.low, h.own.stay hs hd⟩
theorem Nod.stay {w w' : World} {B : Nat} {d : Nd} {M : List Nat} (h : Nod w B d) (hs : Stay w w' M) (hd : ∀ k ∈ d.fp, k ∉ M) : Nod w' B d := by
  refine ⟨?_, h.pk.stay hs (hd _ (by simp [Nd.fp])) (fun k hk => hd k (by simp only [Nd.fp, List.mem_cons]; exact .inr (.inr hk))), h.fit, h.siz, h.low⟩
  rw [hs.block d.a h.lt (hd _ (by simp [Nd.fp]))]
  exact h.blk
/-- A list in memory: at l, its ring at R. -/
structure Lst (w : World) (B l R most cnt : Nat) (ns : List Nd) : Prop where
  blk : w.heap[l]? = some (.cells #[.int .i64 (most : Nat), .int .i64 (cnt : Nat), ptr R] 91 (0, 0))
  ring : ∃ x y, w.heap[R]? = some (.cells #[.pointer none, x, y] 96 (0, 0))
  adj : Adj w (R :: adr ns ++ [R])
  nod : ∀ d ∈ ns, Nod w B d
  num : (l :: R :: fpN ns).Nodup
  lowl : B ≤ l
  lowR : B ≤ R
theorem Lst.lt {w : World} {B l R most cnt : Nat} {ns : List Nd} (h : Lst w B l R most cnt ns) : l < w.heap.size := (Array.getElem?_eq_some_iff.1 h.blk).1
theorem Lst.ltR {w : World} {B l R most cnt : Nat} {ns : List Nd} (h : Lst w B l R most cnt ns) : R < w.heap.size := by
  obtain ⟨x, y, e⟩ := h.ring
  exact (Array.getElem?_eq_some_iff.1 e).1
theorem Lst.fplt {w : World} {B l R most cnt : Nat} {ns : List Nd} (h : Lst w B l R most cnt ns) : ∀ k ∈ l :: R :: fpN ns, B ≤ k ∧ k < w.heap.size := by
  intro k hk
  rcases List.mem_cons.1 hk with rfl | hk
  · exact ⟨h.lowl, h.lt⟩
  rcases List.mem_cons.1 hk with rfl | hk
  · exact ⟨h.lowR, h.ltR⟩
  · obtain ⟨d, hd, hk⟩ := List.mem_flatMap.1 hk
    exact (h.nod d hd).fplt k hk
theorem Lst.numA {w : World} {B l R most cnt : Nat} {ns : List Nd} (h : Lst w B l R most cnt ns) : (R :: adr ns).Nodup := by
  have := (List.nodup_cons.1 h.num).2
  exact this.sublist ((adr_sub ns).cons_cons _)
theorem Lst.adlt {w : World} {B l R most cnt : Nat} {ns : List Nd} (h : Lst w B l R most cnt ns) : ∀ k ∈ R :: adr ns, k < w.heap.size ∧ k ≠ l := by
  intro k hk
  have hk2 : k ∈ R :: fpN ns := by
    rcases List.mem_cons.1 hk with rfl | hk
    · simp
    · exact List.mem_cons_of_mem _ (adr_fpN hk)
  refine ⟨(h.fplt k (List.mem_cons_of_mem _ hk2)).2, fun e => ?_⟩
  subst e
  exact (List.nodup_cons.1 h.num).1 hk2
theorem Lst.stay {w w' : World} {B l R most cnt : Nat} {ns : List Nd} {M : List Nat} (h : Lst w B l R most cnt ns) (hs : Stay w w' M) (hd : ∀ k ∈ l :: R :: fpN ns, k ∉ M) : Lst w' B l R most cnt ns := by
  have hc : ∀ k ∈ R :: adr ns, ∀ o, w'.cell? ⟨k, o, none⟩ = w.cell? ⟨k, o, none⟩ := fun k hk o =>
    World.cell?_of_block (hs.block k (h.adlt k hk).1 (hd k (List.mem_cons_of_mem _ (by
      rcases List.mem_cons.1 hk with rfl | hk
      · simp
      · exact List.mem_cons_of_mem _ (adr_fpN hk)))))
  refine ⟨by rw [hs.block l h.lt (hd _ (by simp))]; exact h.blk, by rw [hs.block R h.ltR (hd _ (by simp))]; exact h.ring, ?_, fun d hdm => (h.nod d hdm).stay hs (fun k hk => hd k (List.mem_cons_of_mem _ (List.mem_cons_of_mem _ (mem_fpN hdm hk)))), h.num, h.lowl, h.lowR⟩
  refine Adj_congr _ (fun k hk => hc k ?_ 2) (fun k hk => hc k ?_ 1) h.adj
  · rw [List.dropLast_concat] at hk; exact hk
  · simp only [List.cons_append, List.tail_cons, List.mem_append, List.mem_singleton] at hk
    rcases hk with hk | rfl
    · exact List.mem_cons_of_mem _ hk
    · simp
theorem Lst.keep {w w' : World} {B l R most cnt : Nat} {ns : List Nd} (h : Lst w B l R most cnt ns) (hb : Below w.heap.size w w') : Lst w' B l R most cnt ns := h.stay (Stay.of_below hb []) (fun _ _ => by simp)
theorem Lst.ccnt {w : World} {B l R most cnt : Nat} {ns : List Nd} (h : Lst w B l R most cnt ns) : w.cell? ⟨l, 1, none⟩ = some (.int .i64 (cnt : Nat)) := by simp [World.cell?, h.blk]
theorem Lst.cring {w : World} {B l R most cnt : Nat} {ns : List Nd} (h : Lst w B l R most cnt ns) : w.cell? ⟨l, 2, none⟩ = some (ptr R) := by simp [World.cell?, h.blk]
theorem Lst.frozen {w : World} {B l R most cnt : Nat} {ns : List Nd} (h : Lst w B l R most cnt ns) (o : Nat) : w.frozen? ⟨l, o, none⟩ = false := by simp [World.frozen?, h.blk]
theorem Lst.cpk {w : World} {B l R most cnt : Nat} {ns : List Nd} (h : Lst w B l R most cnt ns) {d : Nd} (hd : d ∈ ns) : w.cell? ⟨d.a, 0, none⟩ = some (ptr d.p) := by
  obtain ⟨x, y, e⟩ := (h.nod d hd).blk; simp [World.cell?, e]
/-- What two neighbours know. -/
theorem Lst.gap {w : World} {B l R most cnt : Nat} {l1 l2 : List Nd} (h : Lst w B l R most cnt (l1 ++ l2)) : w.cell? ⟨laA R l1, 2, none⟩ = some (ptr (hdA R l2)) ∧ w.cell? ⟨hdA R l2, 1, none⟩ = some (ptr (laA R l1)) := by
  have ha := h.adj
  obtain ⟨X, hX⟩ := fore_ex R l1
  obtain ⟨Y, hY⟩ := back_ex R l2
  have e : R :: adr (l1 ++ l2) ++ [R] = X ++ laA R l1 :: hdA R l2 :: Y := by
    rw [adr_append, ← hY]
    have : R :: (adr l1 ++ adr l2) ++ [R] = (R :: adr l1) ++ (adr l2 ++ [R]) := by simp
    rw [this, hX]; simp
  rw [e, Adj_append] at ha
  exact ha.2.1
theorem Lst.ne_ring {w : World} {B l R most cnt : Nat} {ns : List Nd} (h : Lst w B l R most cnt ns) {d : Nd} (hd : d ∈ ns) : d.a ≠ R := by
  intro e
  have := (List.nodup_cons.1 h.numA).1
  exact this (by rw [← e]; exact List.mem_map_of_mem hd)
/-- What a call on a list leaves as it was: all but the list and what is new. -/
structure Goes (w w' : World) (l R : Nat) (ns ns' : List Nd) : Prop where
  stay : Stay w w' (l :: R :: fpN ns)
  new : ∀ k ∈ fpN ns', k ∈ fpN ns ∨ w.heap.size ≤ k
theorem Goes.of_below {w w' : World} (h : Below w.heap.size w w') (l R : Nat) (ns : List Nd) : Goes w w' l R ns ns := ⟨Stay.of_below h _, fun _ hk => .inl hk⟩
theorem Goes.refl (w : World) (l R : Nat) (ns : List Nd) : Goes w w l R ns ns := Goes.of_below (Below.refl _ _) l R ns
theorem Goes.trans {w w1 w2 : World} {l R : Nat} {ns ns1 ns2 : List Nd} (h : Goes w w1 l R ns ns1) (k : Goes w1 w2 l R ns1 ns2) : Goes w w2 l R ns ns2 := by
  refine ⟨h.stay.trans k.stay ?_, ?_⟩
  · intro i hi
    simp only [List.mem_cons] at hi ⊢
    rcases hi with rfl | rfl | hi
    · simp
    · simp
    · exact (h.new i hi).imp (fun h => .inr (.inr h)) id
  · intro i hi
    rcases k.new i hi with h1 | h1
    · exact h.new i h1
    · exact .inr (Nat.le_trans h.stay.size h1)
theorem Goes.first {w w1 w2 : World} {l R : Nat} {ns ns' : List Nd} (hb : Below w.heap.size w w1) (h : Goes w1 w2 l R ns ns') : Goes w w2 l R ns ns' := (Goes.of_below hb l R ns).trans h
theorem fp_perm (l R : Nat) (l1 l2 : List Nd) (d : Nd) : (l :: R :: fpN (l1 ++ d :: l2)).Perm (d.fp ++ (l :: R :: fpN (l1 ++ l2))) := by
  rw [fpN_append, fpN_cons, fpN_append]
  have h1 : (fpN l1 ++ (d.fp ++ fpN l2)).Perm (d.fp ++ (fpN l1 ++ fpN l2)) := by
    rw [← List.append_assoc, ← List.append_assoc]; exact List.perm_append_comm.append_right _
  refine ((h1.cons R).cons l).trans ?_
  generalize fpN l1 ++ fpN l2 = E
  have h2 : ([l, R] ++ (d.fp ++ E)).Perm (d.fp ++ ([l, R] ++ E)) := by
    rw [← List.append_assoc, ← List.append_assoc]; exact List.perm_append_comm.append_right _
  exact h2
/-- A node's blocks are no others'. -/
theorem Lst.apart {w : World} {B l R most cnt : Nat} {l1 l2 : List Nd} {d : Nd} (h : Lst w B l R most cnt (l1 ++ d :: l2)) : d.fp.Nodup ∧ (l :: R :: fpN (l1 ++ l2)).Nodup ∧ ∀ k ∈ l :: R :: fpN (l1 ++ l2), k ∉ d.fp := by
  have := (fp_perm l R l1 l2 d).nodup_iff.1 h.num
  rw [List.nodup_append] at this
  exact ⟨this.1, this.2.1, fun k hk hd => this.2.2 k hd k hk rfl⟩
theorem mem_mid {l1 l2 : List Nd} {e : Nd} (h : e ∈ l1 ++ l2) (d : Nd) : e ∈ l1 ++ d :: l2 := by
  rcases List.mem_append.1 h with h | h
  · exact List.mem_append_left _ h
  · exact List.mem_append_right _ (List.mem_cons_of_mem _ h)
theorem mem_or {l1 l2 : List Nd} {e d : Nd} (h : e ∈ l1 ++ d :: l2) : e = d ∨ e ∈ l1 ++ l2 := by
  rcases List.mem_append.1 h with h | h
  · exact .inr (List.mem_append_left _ h)
  · rcases List.mem_cons.1 h with h | h
    · exact .inl h
    · exact .inr (List.mem_append_right _ h)
theorem mem_sub {l R k : Nat} {l1 l2 : List Nd} {e : Nd} (he : e ∈ l1 ++ l2) (hk : k ∈ e.fp) : k ∈ l :: R :: fpN (l1 ++ l2) := List.mem_cons_of_mem _ (List.mem_cons_of_mem _ (mem_fpN he hk))
/-- Another node in the place of one, at the same address. -/
theorem Lst.put {w w' : World} {B l R most cnt : Nat} {l1 l2 : List Nd} {d d' : Nd} (h : Lst w B l R most cnt (l1 ++ d :: l2)) (ha : d'.a = d.a) {M : List Nat} (hs : Stay w w' M) (hM : ∀ k ∈ M, k ∈ d.fp)
    (hc : ∀ o, o = 1 ∨ o = 2 → w'.cell? ⟨d.a, o, none⟩ = w.cell? ⟨d.a, o, none⟩) (hN : Nod w' B d') (hnd : d'.fp.Nodup) (hnew : ∀ k ∈ d'.fp, k ∈ d.fp ∨ w.heap.size ≤ k) : Lst w' B l R most cnt (l1 ++ d' :: l2) ∧ Goes w w' l R (l1 ++ d :: l2) (l1 ++ d' :: l2) := by
  obtain ⟨hn1, hn2, hn3⟩ := h.apart
  have hlt : ∀ k ∈ l :: R :: fpN (l1 ++ l2), k < w.heap.size := fun k hk => (h.fplt k ((fp_perm l R l1 l2 d).mem_iff.2 (List.mem_append_right _ hk))).2
  have hbk : ∀ k ∈ l :: R :: fpN (l1 ++ l2), w'.heap[k]? = w.heap[k]? := fun k hk => hs.block k (hlt k hk) (fun hm => hn3 k hk (hM k hm))
  have hadr : adr (l1 ++ d' :: l2) = adr (l1 ++ d :: l2) := by rw [adr_append, adr_append, adr_cons, adr_cons, ha]
  have hcell : ∀ k ∈ R :: adr (l1 ++ d :: l2), ∀ o, o = 1 ∨ o = 2 → w'.cell? ⟨k, o, none⟩ = w.cell? ⟨k, o, none⟩ := by
    intro k hk o ho
    by_cases hkd : k = d.a
    · subst hkd; exact hc o ho
    · refine World.cell?_of_block (hbk k ?_)
      rcases List.mem_cons.1 hk with rfl | hk
      · simp
      · obtain ⟨e, he, rfl⟩ := List.mem_map.1 hk
        rcases mem_or he with rfl | he
        · exact absurd rfl hkd
        · exact mem_sub he (by simp [Nd.fp])
  refine ⟨⟨by rw [hbk l (by simp)]; exact h.blk, by rw [hbk R (by simp)]; exact h.ring, ?_, ?_, ?_, h.lowl, h.lowR⟩, ?_, ?_⟩
  · rw [hadr]
    refine Adj_congr _ (fun k hk => hcell k ?_ 2 (.inr rfl)) (fun k hk => hcell k ?_ 1 (.inl rfl)) h.adj
    · rw [List.dropLast_concat] at hk; exact hk
    · simp only [List.cons_append, List.tail_cons, List.mem_append, List.mem_singleton] at hk
      rcases hk with hk | rfl
      · exact List.mem_cons_of_mem _ hk
      · simp
  · intro e he
    rcases mem_or he with rfl | he
    · exact hN
    · exact (h.nod e (mem_mid he d)).stay hs (fun k hk hm => hn3 k (mem_sub he hk) (hM k hm))
  · refine (fp_perm l R l1 l2 d').nodup_iff.2 (List.nodup_append.2 ⟨hnd, hn2, ?_⟩)
    intro k hk j hj e
    subst e
    rcases hnew k hk with h1 | h1
    · exact hn3 k hj h1
    · have := hlt k hj; omega
  · refine hs.mono fun k hk => ?_
    exact (fp_perm l R l1 l2 d).mem_iff.2 (List.mem_append_left _ (hM k hk))
  · intro k hk
    rw [fpN_append, fpN_cons] at hk ⊢
    simp only [List.mem_append] at hk ⊢
    rcases hk with hk | hk | hk
    · exact .inl (.inl hk)
    · exact (hnew k hk).imp (fun h => .inr (.inl h)) id
    · exact .inl (.inr (.inr hk))
theorem heap_set {w : World} {b o : Nat} {cs : Array Value} {t : TypeId} (h : w.heap[b]? = some (.cells cs t (0, 0))) (v : Value) : (w.setCell ⟨b, o, none⟩ v).heap[b]? = some (.cells (cs.setIfInBounds o v) t (0, 0)) := by
  simp [World.setCell, Array.getElem?_modify, h]
theorem Lst.nb {w : World} {B l R most cnt : Nat} {ns : List Nd} (h : Lst w B l R most cnt ns) {k : Nat} (hk : k ∈ R :: adr ns) : ∃ P x y, w.heap[k]? = some (.cells #[P, x, y] 96 (0, 0)) := by
  rcases List.mem_cons.1 hk with rfl | hk
  · exact ⟨_, h.ring⟩
  · obtain ⟨d, hd, rfl⟩ := List.mem_map.1 hk
    exact ⟨_, (h.nod d hd).blk⟩
theorem cell_ne {w : World} {q o k j : Nat} {v : Value} (h : ¬ (k = q ∧ j = o)) : (w.setCell ⟨q, o, none⟩ v).cell? ⟨k, j, none⟩ = w.cell? ⟨k, j, none⟩ := by
  apply World.cell?_setCell_other
  intro e
  injection e with e1 e2
  exact h ⟨e1.symm, e2.symm⟩
theorem Tryz.infoN : (Tryz.prog.info? 96).map (fun i => i.size) = some 3 := by kernel_rfl
theorem infoN_ex : ∃ j, Tryz.prog.info? 96 = some j ∧ j.size ≠ 0 := by
  have h := Tryz.infoN
  cases hj : Tryz.prog.info? 96 with
  | none => rw [hj] at h; cases h
  | some j =>
    rw [hj] at h
    refine ⟨j, rfl, ?_⟩
    have : j.size = 3 := Option.some.inj h
    omega
theorem neq_same (w : World) (k : Nat) : (binOp .neq 89 (ptr k) (ptr k)).run Tryz.prog w = .ok (.bool false) w := by
  obtain ⟨j, hj, -⟩ := infoN_ex
  exact Lib.run_neq_ptr_same w ⟨k, 0, none⟩ Tryz.underlying89 hj
theorem eql_other {w : World} {k q : Nat} {ca cb : Array Value} {ta tb : TypeId} (h : k ≠ q) (ha : w.heap[k]? = some (.cells ca ta (0, 0))) (hb : w.heap[q]? = some (.cells cb tb (0, 0))) : (binOp .eql 89 (ptr k) (ptr q)).run Tryz.prog w = .ok (.bool false) w := by
  obtain ⟨j, hj, hs⟩ := infoN_ex
  exact run_eql_ptr_other w Tryz.underlying89 hj hs (by intro e; injection e with e1; exact h e1) ha hb
theorem neq_other {w : World} {k q : Nat} {ca cb : Array Value} {ta tb : TypeId} (h : k ≠ q) (ha : w.heap[k]? = some (.cells ca ta (0, 0))) (hb : w.heap[q]? = some (.cells cb tb (0, 0))) : (binOp .neq 89 (ptr k) (ptr q)).run Tryz.prog w = .ok (.bool true) w := by
  obtain ⟨j, hj, hs⟩ := infoN_ex
  have hne : (⟨k, 0, none⟩ : Addr) ≠ ⟨q, 0, none⟩ := by intro e; injection e with e1; exact h e1
  have hh : ∀ d : Nat, (Op.equalIn (d + 1) 89 (ptr k) (ptr q)).run Tryz.prog w = .ok false w := fun d => by
    simp [Op.equalIn, run_underlying Tryz.underlying89, sizeOf, typeInfo, hj, hs, run_sameAddr_other w hne ha hb]
  simp only [binOp]
  simp [Op.equal, Op.maxDepth, hh 9999]
/-- Two unlike nodes of a ring are told apart. -/
theorem Lst.neq {w : World} {B l R most cnt : Nat} {ns : List Nd} (h : Lst w B l R most cnt ns) {k q : Nat} (hk : k ∈ R :: adr ns) (hq : q ∈ R :: adr ns) (hne : k ≠ q) : (binOp .eql 89 (ptr k) (ptr q)).run Tryz.prog w = .ok (.bool false) w ∧ (binOp .neq 89 (ptr k) (ptr q)).run Tryz.prog w = .ok (.bool true) w := by
  obtain ⟨P, x, y, e1⟩ := h.nb hk
  obtain ⟨P', x', y', e2⟩ := h.nb hq
  exact ⟨eql_other hne e1 e2, neq_other hne e1 e2⟩
theorem Lst.neqR {w : World} {B l R most cnt : Nat} {ns : List Nd} (h : Lst w B l R most cnt ns) {d : Nd} (hd : d ∈ ns) : (binOp .eql 89 (ptr d.a) (ptr R)).run Tryz.prog w = .ok (.bool false) w ∧ (binOp .neq 89 (ptr d.a) (ptr R)).run Tryz.prog w = .ok (.bool true) w :=
  h.neq (List.mem_cons_of_mem _ (List.mem_map_of_mem hd)) (by simp) (h.ne_ring hd)
/-- No node is empty, none has too many. -/
def Ok (most : Nat) (ns : List Nd) : Prop := ∀ d ∈ ns, 0 < d.ls.length ∧ d.ls.length ≤ most
theorem Ok.mid {most : Nat} {l1 l2 : List Nd} {d d' : Nd} (h : Ok most (l1 ++ d :: l2)) (h' : 0 < d'.ls.length ∧ d'.ls.length ≤ most) : Ok most (l1 ++ d' :: l2) := by
  intro e he
  rcases mem_or he with rfl | he
  · exact h'
  · exact h e (mem_mid he d)
theorem nodup_inj : ∀ (ns : List Nd), (adr ns).Nodup → ∀ d ∈ ns, ∀ e ∈ ns, d.a = e.a → d = e
  | [], _, _, hd, _, _, _ => absurd hd (by simp)
  | x :: r, h, d, hd, e, he, hda => by
    rw [adr_cons, List.nodup_cons] at h
    rcases List.mem_cons.1 hd with e1 | hd2
    · rcases List.mem_cons.1 he with e2 | he2
      · rw [e1, e2]
      · have hx : e.a ∈ adr r := List.mem_map_of_mem he2
        rw [← hda, e1] at hx
        exact absurd hx h.1
    · rcases List.mem_cons.1 he with e2 | he2
      · have hx : d.a ∈ adr r := List.mem_map_of_mem hd2
        rw [hda, e2] at hx
        exact absurd hx h.1
      · exact nodup_inj r h.2 d hd2 e he2 hda
theorem Lst.same {w : World} {B l R most cnt : Nat} {ns : List Nd} (h : Lst w B l R most cnt ns) {d e : Nd} (hd : d ∈ ns) (he : e ∈ ns) (ha : d.a = e.a) : d = e :=
  nodup_inj ns (List.nodup_cons.1 h.numA).2 d hd e he ha
/-- A new pack lies in no list that was. -/
theorem Pk.blocks {w : World} {C p : Nat} {r : Option Addr} {n c : Nat} {ls : List ByteArray} (h : Pk w C p r n c ls) : (∀ k ∈ p :: (r.map (·.block)).toList, C ≤ k ∧ k < w.heap.size) ∧ (p :: (r.map (·.block)).toList).Nodup := by
  refine ⟨fun k hk => ?_, List.nodup_cons.2 ⟨fun hm => ?_, by cases r <;> simp⟩⟩
  · rcases List.mem_cons.1 hk with rfl | hk
    · exact ⟨h.low, h.lt⟩
    · rw [Option.mem_toList] at hk
      exact h.own.lt k (by rw [← hk]; cases r <;> rfl)
  · rw [Option.mem_toList] at hm
    exact h.own.ne_pk h.blk hm.symm
theorem LenQ_any (B l R most cnt : Nat) (ns : List Nd) (w : World) (h : Lst w B l R most cnt ns) :
    Calls Tryz.prog 20 #[ptr l] w fun e w' => e = .returned (.int .i64 (cnt : Nat)) ∧ w' = w := by
  have hd := h.ccnt
  clear h
  go_enter Tryz.func20, Tryz.ntmps20
  go_wp2
  go_ret
  exact ⟨rfl, rfl⟩
/-- An empty list at l, its ring at R. -/
theorem Lst.made {w : World} {B l R most : Nat} (h1 : w.heap[l]? = some (.cells #[.int .i64 (most : Nat), .int .i64 ((0 : Nat) : Nat), ptr R] 91 (0, 0))) (h2 : w.heap[R]? = some (.cells #[.pointer none, ptr R, ptr R] 96 (0, 0))) (hl : B ≤ l) (hR : B ≤ R) (hne : l ≠ R) : Lst w B l R most 0 [] := by
  refine ⟨h1, ⟨_, _, h2⟩, ?_, fun d hd => absurd hd (by simp), ?_, hl, hR⟩
  · exact ⟨⟨by simp [World.cell?, h2], by simp [World.cell?, h2]⟩, trivial⟩
  · simp [fpN, hne]
set_option maxRecDepth 100000 in
theorem NewQ_any (m : Int) (w : World) (most : Nat) (hm : max m 1 = most) :
    Calls Tryz.prog 45 #[.int .i64 m] w fun e w' => Below w.heap.size w w' ∧ ∃ l R, e = .returned (ptr l) ∧ Lst w' w.heap.size l R most 0 [] := by
  have hW0 : (w.alloc (.cells #[.pointer none, .pointer none, .pointer none] 96)).heap[w.heap.size]? = some (.cells #[.pointer none, .pointer none, .pointer none] 96 (0, 0)) := heap_alloc_new w _
  obtain ⟨w0, hw0⟩ : ∃ w0, w.alloc (.cells #[.pointer none, .pointer none, .pointer none] 96) = w0 := ⟨_, rfl⟩
  have HB0 : Hid (Below w.heap.size w w0) := by rw [← hw0]; exact alloc_below w _
  rw [hw0] at hW0
  obtain ⟨G, hG⟩ : ∃ G, w.heap.size = G := ⟨_, rfl⟩
  have HG : Hid (w.heap.size = G) := hG
  rw [hG] at hW0
  have hc1 : w0.cell? ⟨G, 1, none⟩ = some (.pointer none) := by simp [World.cell?, hW0]
  have hf1 : w0.frozen? ⟨G, 1, none⟩ = false := by simp [World.frozen?, hW0]
  have hc2 : (w0.setCell ⟨G, 1, none⟩ (ptr G)).cell? ⟨G, 2, none⟩ = some (.pointer none) := by rw [cell_ne (fun e => absurd e.2 (by decide))]; simp [World.cell?, hW0]
  have hf2 : (w0.setCell ⟨G, 1, none⟩ (ptr G)).frozen? ⟨G, 2, none⟩ = false := by rw [World.frozen?_setCell]; simp [World.frozen?, hW0]
  have hW2 : ((w0.setCell ⟨G, 1, none⟩ (ptr G)).setCell ⟨G, 2, none⟩ (ptr G)).heap[G]? = some (.cells #[.pointer none, ptr G, ptr G] 96 (0, 0)) := by rw [heap_set (heap_set hW0 _)]; rfl
  obtain ⟨w2, hw2⟩ : ∃ w2, (w0.setCell ⟨G, 1, none⟩ (ptr G)).setCell ⟨G, 2, none⟩ (ptr G) = w2 := ⟨_, rfl⟩
  have hGG : w.heap.size ≤ G := Nat.le_of_eq hG
  have HB2 : Hid (Below w.heap.size w w2) := by
    rw [← hw2]
    have s1 : Stay w0 ((w0.setCell ⟨G, 1, none⟩ (ptr G)).setCell ⟨G, 2, none⟩ (ptr G)) [G] := Stay.set.trans Stay.set (fun _ hi => .inl hi)
    exact HB0.out.trans (s1.below (by simpa using hGG) HB0.out.size)
  have HW2 : Hid (w2.heap[G]? = some (.cells #[.pointer none, ptr G, ptr G] 96 (0, 0))) := by rw [← hw2]; exact hW2
  have HE : Hid (Lst (w2.alloc (.cells #[.int .i64 (most : Nat), .int .i64 0, ptr G] 91)) w.heap.size w2.heap.size G most 0 []) := by
    have hlt : G < w2.heap.size := (Array.getElem?_eq_some_iff.1 HW2.out).1
    refine Lst.made (heap_alloc_new w2 _) ?_ HB2.out.size hGG (by omega)
    rw [(alloc_below w2 _).block G hlt]
    exact HW2.out
  clear hW0 hW2 hGG HG
  subst hG
  by_cases h1 : m < 1
  · have h2 : most = 1 := by omega
    subst h2
    clear hm
    go_enter Tryz.func45, Tryz.ntmps45
    go_wp2
    go_ret
    refine ⟨HB2.out.trans ((alloc_below w2 _).mono HB2.out.size), w2.heap.size, ?_⟩
    first | exact ⟨_, rfl, HE.out⟩ | exact ⟨rfl, _, HE.out⟩
  · have h2 : m = most := by omega
    subst h2
    clear hm
    go_enter Tryz.func45, Tryz.ntmps45
    go_wp2
    go_ret
    refine ⟨HB2.out.trans ((alloc_below w2 _).mono HB2.out.size), w2.heap.size, ?_⟩
    first | exact ⟨_, rfl, HE.out⟩ | exact ⟨rfl, _, HE.out⟩
/-- A row of texts that lies outside a list. -/
structure RdF (w : World) (a : Option Addr) (n : Nat) (ls : List ByteArray) (F : List Nat) : Prop where
  rd : RdS w a n ls
  far : ∀ x, a = some x → x.block ∉ F ∧ x.block < w.heap.size
def fs (n : Nat) (i : Int) : Int := if i < 0 then i + n else i
/-- A slice that reads the numbers ls. -/
structure RdI (w : World) (a : Option Addr) (n : Nat) (ls : List Nat) : Prop where
  len : ls.length = n
  max : n ≤ maxLen
  cell : ∀ j, j < n → ∃ b off, a = some ⟨b, off, none⟩ ∧ w.cell? ⟨b, off + j, none⟩ = some (.int .i64 (ls.getD j 0 : Nat))
theorem RdI.keep {w wn : World} {a : Option Addr} {n : Nat} {ls : List Nat} (h : RdI w a n ls) (hb : Below w.heap.size w wn) : RdI wn a n ls :=
  ⟨h.len, h.max, fun j hj => by
    obtain ⟨b, off, e, hc⟩ := h.cell j hj
    exact ⟨b, off, e, by rw [hb.cell (p := ⟨b, off + j, none⟩) (World.block_lt_of_cell? _ _ hc)]; exact hc⟩⟩
/-- The numbers as cells. -/
def icells (ls : List Nat) : List Value := ls.map fun (b : Nat) => Value.int .i64 (b : Int)
theorem icells_append (l r : List Nat) : icells (l ++ r) = icells l ++ icells r := List.map_append ..
/-- A row of numbers of the call's own. -/
def OwnI (w : World) (B : Nat) (a : Option Addr) (n cap : Nat) (ls : List Nat) : Prop := w.ownsRow B 3 1 (.slice a n cap) n (icells ls)
theorem OwnI.nil (w : World) (B : Nat) : OwnI w B none 0 0 [] := World.ownsRow_nil w B 3 1
theorem OwnI.len {w : World} {B : Nat} {a : Option Addr} {n cap : Nat} {ls : List Nat} (h : OwnI w B a n cap ls) : ls.length = n := by
  have := h.1; simpa [icells] using this
theorem OwnI.keep {w wn : World} {B : Nat} {a : Option Addr} {n cap : Nat} {l : List Nat} (h : OwnI w B a n cap l) (hb : Below w.heap.size w wn) : OwnI wn B a n cap l := by
  refine ⟨h.1, ?_⟩
  rcases h.2 with h2 | ⟨g, c, cur, h1, h3, h4, h5⟩
  · exact .inl h2
  · refine .inr ⟨g, c, cur, h1, h3, ?_, h5⟩
    rw [hb.block g (Array.getElem?_eq_some_iff.1 h4).1]; exact h4
theorem OwnI.kept {w wn : World} {B : Nat} {a : Option Addr} {n cap : Nat} {l : List Nat} {row : Option Nat} (h : OwnI w B a n cap l) (hg : w.grownBy wn row) (hne : ∀ g, a = some ⟨g, 0, none⟩ → row ≠ some g) : OwnI wn B a n cap l := by
  refine ⟨h.1, ?_⟩
  rcases h.2 with h2 | ⟨g, c, cur, h1, h3, h4, h5⟩
  · exact .inl h2
  · refine .inr ⟨g, c, cur, h1, h3, ?_, h5⟩
    cases h1
    rw [hg.block g (Array.getElem?_eq_some_iff.1 h4).1 (fun e => hne g rfl e.symm)]; exact h4
theorem OwnI.rd {w : World} {B : Nat} {a : Option Addr} {n cap : Nat} {ls : List Nat} (h : OwnI w B a n cap ls) : RdI w a n ls := by
  have hl := h.len
  rcases h.2 with ⟨h2, h3⟩ | ⟨g, c, cur, h1, h3, h4, h5, h6, h7, h8⟩
  · cases h2
    exact RdI.mk hl (by rw [h3]; decide) (fun j hj => absurd hj (by omega))
  · cases h1
    refine RdI.mk hl (Nat.le_trans h5 h6) (fun j hj => ⟨g, 0, rfl, ?_⟩)
    have := h.cells (g := g) rfl j (.int .i64 (ls.getD j 0 : Nat)) (by
      simp only [icells, List.getElem?_map, List.getD_eq_getElem?_getD]
      rw [List.getElem?_eq_getElem (by omega)]; rfl)
    rw [add_flat] at this
    rw [Nat.zero_add] at this ⊢
    exact this
theorem Tryz.info3 : (Tryz.prog.info? 3).map (fun i => (i.zero, i.size, i.bytes)) = some (some (.int .i64 0), 1, 8) := by kernel_rfl
/-- append(l, x) at rows of numbers. -/
theorem run_append_int (w : World) (B : Nat) (a : Option Addr) (n cap : Nat) (ls : List Nat) (hown : OwnI w B a n cap ls) (g t : Nat) (hr : w.cell? ⟨g, 0, none⟩ = some (.int .i64 (t : Nat))) (hb : n + 1 ≤ 1000000) (hB : B ≤ w.heap.size) (ty : TypeId) :
    ∃ a2 c2 w2, (Builtin.append_ #[30, 30] ty #[.slice a n cap, .slice (some ⟨g, 0, none⟩) 1 1]).run Tryz.prog w = .ok (.slice a2 (n + 1) c2) w2 ∧ OwnI w2 B a2 (n + 1) c2 (ls ++ [t]) ∧ w.grownBy w2 (a.map (·.block)) ∧ Went w a a2 := by
  obtain ⟨i0, hi, hz0, hz1, hz2⟩ := info_parts Tryz.info3
  have hblk : (Value.slice a n cap).ownBlock = a.map (·.block) := by cases a <;> rfl
  have hnews : ∀ j u, (icells [t])[j]? = some u → w.cell? ((⟨g, 0, none⟩ : Addr).add j) = some u := by
    intro j u hu
    cases j with
    | zero => rw [add_flat, hr]; exact hu
    | succ j => simp [icells] at hu
  have gen : ∀ C, OwnI w C a n cap ls → C ≤ w.heap.size → ∃ a2 c2 w2, (Builtin.append_ #[30, 30] ty #[.slice a n cap, .slice (some ⟨g, 0, none⟩) 1 1]).run Tryz.prog w = .ok (.slice a2 (n + 1) c2) w2 ∧ OwnI w2 C a2 (n + 1) c2 (ls ++ [t]) ∧ w.grownBy w2 (a.map (·.block)) := by
    intro C hC hCs
    obtain ⟨v', w', h1, h2, h3, -⟩ := run_append_own (P := Tryz.prog) w C 30 ty 3 i0 (.int .i64 0) 1 8 Tryz.underlying30 hi hz0 hz1 hz2 rfl (by decide) (.slice a n cap) n (icells ls) hC ⟨g, 0, none⟩ 1 1 (icells [t]) rfl hnews (by simp [icells, Value.oneCell']) (by unfold maxLen; omega) (by omega) hCs
    rw [← icells_append] at h2
    rw [hblk] at h3
    rcases h2.2 with ⟨rfl, h4⟩ | ⟨g2, c, cur, rfl, h4⟩
    · omega
    · exact ⟨_, _, w', h1, h2, h3⟩
  obtain ⟨a2, c2, w2, h1, h2, h3⟩ := gen B hown hB
  refine ⟨a2, c2, w2, h1, h2, h3, ?_⟩
  rcases hown.2 with ⟨e, h0⟩ | ⟨g0, c, cur, e, h4, h5, h6, h7, h8, h9⟩
  · cases e
    have hnil : ls = [] := List.length_eq_zero_iff.1 hown.len
    subst hnil
    obtain ⟨a3, c3, w3, k1, k2, -⟩ := gen w.heap.size (OwnI.nil w _) (Nat.le_refl _)
    rw [h1] at k1
    cases k1
    rcases k2.2 with ⟨e, _⟩ | ⟨b, c, cur, e, hb, _⟩
    · cases e
    · cases e
      exact .inr ⟨b, rfl, hb⟩
  · cases e
    by_cases hroom : n + 1 ≤ cap
    · have hrun := run_append_room (P := Tryz.prog) w 30 ty 3 i0 Tryz.underlying30 hi g0 n cap cur h5 ⟨g, 0, none⟩ 1 1 (icells [t]) (by rw [hz1]; rfl) hnews (by simp [icells, Value.oneCell']) hroom (by rw [hz1]; simp [icells]; omega)
      rw [h1] at hrun
      cases hrun
      exact .inl rfl
    · have hrun := run_append_grow (P := Tryz.prog) w 30 ty 3 i0 (.int .i64 0) Tryz.underlying30 hi hz0 ⟨g0, 0, none⟩ n cap (icells ls) (by rw [hz1]; exact hown.1) (hown.cells (g := g0) rfl) ⟨g, 0, none⟩ 1 1 (icells [t]) (by rw [hz1]; rfl) hnews (by omega) (by omega) (growslice_fits (by omega) (by rw [hz2]; omega))
      rw [h1] at hrun
      cases hrun
      exact .inr ⟨_, rfl, Nat.le_refl _⟩
theorem append_int {w : World} {ops : Array Oper} {rest : List Oper} {o : Oper} {ac : Act} {Q : Exit → Act → World → Prop} (hgd : o.guard = none) (s x : Operand) (ho : o.op = .call { callee := .builtin .append, args := #[s, x], argTypes := #[30, 30] })
    (B : Nat) {a : Option Addr} {n cap : Nat} {ls : List Nat} (hs : ac.eval s = .slice a n cap) (hown : OwnI w B a n cap ls)
    {g t : Nat} (hx : ac.eval x = .slice (some ⟨g, 0, none⟩) 1 1) (hr : w.cell? ⟨g, 0, none⟩ = some (.int .i64 (t : Nat))) (hb : n + 1 ≤ 1000000) (hB : B ≤ w.heap.size)
    (h : ∀ a2 n2 c2 w2, n2 = n + 1 → Hid (OwnI w2 B a2 n2 c2 (ls ++ [t])) → Hid (w.grownBy w2 (a.map (·.block))) → Hid (Went w a a2) → wpList Tryz.prog ops Q rest (ac.put o.dst (.slice a2 n2 c2)) w2) : wpList Tryz.prog ops Q (o :: rest) ac w := by
  obtain ⟨a2, c2, w2, h1, h2, h3, h4⟩ := run_append_int w B a n cap ls hown g t hr hb hB o.type
  refine wpList_plain hgd fun K hK => ?_
  unfold Oper.wp
  simp [execOp, ho, resolve, invoke, builtin, hs, hx, h1, Result.andThen]
  exact hK _ _ (h a2 _ c2 w2 rfl h2 h3 h4)
theorem OwnI.below {w w2 : World} {B : Nat} {a : Option Addr} {n cap : Nat} {ls : List Nat} (h : OwnI w B a n cap ls) (hg : w.grownBy w2 (a.map (·.block))) (hB : B ≤ w.heap.size) : Below B w w2 := by
  have hblk : (Value.slice a n cap).ownBlock = a.map (·.block) := by cases a <;> rfl
  rw [← hblk] at hg
  exact (Below.refl B w).grown hg hB (fun k hk => (h.lt k hk).1)
set_option maxRecDepth 100000 in
set_option maxHeartbeats 400000 in
theorem Nodes_any (B l R most cnt : Nat) (ns : List Nd) (w : World) (h : Lst w B l R most cnt ns) (hm1 : ns.length ≤ 999999) :
    Calls Tryz.prog 29 #[ptr l] w fun e w' => Below w.heap.size w w' ∧ ∃ a2 n2 c2, e = .returned (.slice a2 n2 c2) ∧ OwnI w' w.heap.size a2 n2 c2 (ns.map fun d => d.ls.length) := by
  have hc := h.cring
  have hg : w.cell? ⟨R, 2, none⟩ = some (ptr (hdA R ns)) := (Lst.gap (l1 := []) (l2 := ns) h).1
  have HL : Hid (Lst w B l R most cnt ns) := h
  obtain ⟨m, hm⟩ : ∃ m, ns.length = m := ⟨_, rfl⟩
  have HM : Hid (ns.length = m) := hm
  obtain ⟨v, hv⟩ : ∃ v, hdA R ns = v := ⟨_, rfl⟩
  have HV : Hid (hdA R ns = v) := hv
  have HO0 : Hid (OwnI w w.heap.size none 0 0 (([] : List Nd).map fun d => d.ls.length)) := OwnI.nil w _
  rw [hv] at hg
  rw [hm] at hm1
  clear h hm hv
  go_enter Tryz.func29, Tryz.ntmps29
  go_wp2
  go_loopg [3, 4] m (fun g tv nv wr => ∃ l1 l2 : List Nd, ∃ v : Nat, ∃ a2 n2 c2, tv = .slice a2 n2 c2 ∧ nv = ptr v ∧ Hid (hdA R l2 = v) ∧ Hid (l2.length = g) ∧ Hid (ns = l1 ++ l2) ∧ Hid (OwnI wr w.heap.size a2 n2 c2 (l1.map fun d => d.ls.length)) ∧ Hid (Below w.heap.size w wr))
  case atStart => exact ⟨[], ns, v, none, 0, 0, rfl, rfl, HV, HM, rfl, HO0, Below.refl _ _⟩
  case round =>
    obtain ⟨l1, l2, v, a2, n2, c2, rfl, rfl, HV, HG, HE, HO, HB⟩ := hrel
    have hLk := HL.out.keep HB.out
    have hcr := hLk.cring
    cases l2 with
    | nil =>
      have hvR : R = v := HV.out
      subst hvR
      have hq := neq_same wr R
      have HEE : Hid (ns = l1) := by show _ = _; have := HE.out; simpa using this
      clear hLk
      go_wp2
      go_ret
      exact ⟨HB.out, _, _, _, rfl, by rw [HEE.out]; exact HO.out⟩
    | cons d r =>
      have hvd : d.a = v := HV.out
      subst hvd
      rw [HE.out] at hLk
      have hq := (hLk.neqR (d := d) (by simp)).2
      have hcp := hLk.cpk (d := d) (by simp)
      have hdN := hLk.nod d (by simp)
      have HLen := Len_any B d.p d.r d.n d.c d.ls wr hdN.pk
      obtain ⟨v2, hv2⟩ : ∃ v2, hdA R r = v2 := ⟨_, rfl⟩
      have HV2 : Hid (hdA R r = v2) := hv2
      have hg2 : Hid (∀ w', Below w.heap.size w w' → w'.cell? ⟨d.a, 2, none⟩ = some (ptr v2)) := fun w' hb => by
        have h3 := HL.out.keep hb
        rw [HE.out] at h3
        have := (Lst.gap (l1 := l1 ++ [d]) (l2 := r) (by simpa using h3)).1
        rw [laA_snoc, hv2] at this
        exact this
      have HE1 : Hid (ns = (l1 ++ [d]) ++ r) := by show _ = _; rw [HE.out]; simp
      have HK : Hid (r.length = gk - 1) := by have := HG.out; rw [List.length_cons] at this; show _ = _; omega
      have hg0 : gk ≠ 0 := by have := HG.out; rw [List.length_cons] at this; omega
      have HN : Hid (n2 + 1 ≤ 1000000) := by
        have h1 := HO.out.len
        have h2 := HM.out
        rw [HE.out] at h2
        simp at h1 h2
        show _ ≤ _
        omega
      have HQ : Hid ((l1.map fun d => d.ls.length) ++ [d.ls.length] = (l1 ++ [d]).map fun d => d.ls.length) := by show _ = _; simp
      generalize d.ls.length = q at HLen HQ
      clear hLk hdN hv2
      go_wp2_with fail
      refine HLen.mono ?_
      rintro e wr ⟨rfl, rfl⟩
      go_wp2_with (at_builtin; refine append_int rfl (.tmp 22) (.tmp 28) rfl w.heap.size rfl (HO.out.keep (alloc_below wr (.cells #[.int .i64 (q : Nat)] 3))) rfl (by simp; rfl) HN.out (Nat.le_trans HB.out.size (alloc_below wr _).size) ?_; intro a3 n3 c3 w3 hn3 HO3 HG3 HW3; have HB3 : Hid (Below w.heap.size w w3) := (HB.out.trans ((alloc_below wr _).mono HB.out.size)).trans (OwnI.below (HO.out.keep (alloc_below wr (.cells #[.int .i64 (q : Nat)] 3))) HG3.out (Nat.le_trans HB.out.size (alloc_below wr _).size)); have hg3 := hg2.out w3 HB3.out; clear hn3)
      go_roundg (gk - 1)
      case measure => omega
      case rel => exact ⟨_, r, v2, _, _, _, rfl, rfl, HV2, HK, HE1, by rw [HQ.out] at HO3; exact HO3, HB3⟩
/-- A list at l, in packs of at most so many, that has the texts ts; F: its blocks. -/
structure QL (w : World) (B l most : Nat) (ts : List ByteArray) (F : List Nat) : Prop where
  ex : ∃ R ns, Lst w B l R most ts.length ns ∧ Ok most ns ∧ txN ns = ts ∧ F = l :: R :: fpN ns
  pos : 0 < most
  few : most ≤ 1000000
/-- What a call on a list leaves as it was. -/
structure Left (w w' : World) (F F' : List Nat) : Prop where
  stay : Stay w w' F
  new : ∀ k ∈ F', k ∈ F ∨ w.heap.size ≤ k
theorem Left.of_below {w w' : World} (h : Below w.heap.size w w') (F : List Nat) : Left w w' F F := ⟨Stay.of_below h _, fun _ hk => .inl hk⟩
theorem Left.trans {w w1 w2 : World} {F F1 F2 : List Nat} (h : Left w w1 F F1) (k : Left w1 w2 F1 F2) : Left w w2 F F2 :=
  ⟨h.stay.trans k.stay (fun i hi => h.new i hi), fun i hi => by
    rcases k.new i hi with h1 | h1
    · exact h.new i h1
    · exact .inr (Nat.le_trans h.stay.size h1)⟩
/-- What a call does to a list. -/
def QDoes (w : World) (B l most : Nat) (ts : List ByteArray) (F : List Nat) (w' : World) : Prop := ∃ F', QL w' B l most ts F' ∧ Left w w' F F'
theorem QL.keep {w w' : World} {B l most : Nat} {ts : List ByteArray} {F : List Nat} (h : QL w B l most ts F) (hb : Below w.heap.size w w') : QL w' B l most ts F := by
  obtain ⟨R, ns, h1, h2, h3, h4⟩ := h.ex
  exact ⟨⟨R, ns, h1.keep hb, h2, h3, h4⟩, h.pos, h.few⟩
theorem QL.blocks {w : World} {B l most : Nat} {ts : List ByteArray} {F : List Nat} (h : QL w B l most ts F) : ∀ k ∈ F, B ≤ k ∧ k < w.heap.size := by
  obtain ⟨R, ns, h1, h2, h3, rfl⟩ := h.ex
  exact h1.fplt
theorem QL.stay {w w' : World} {B l most : Nat} {ts : List ByteArray} {F M : List Nat} (h : QL w B l most ts F) (hs : Stay w w' M) (hd : ∀ k ∈ F, k ∉ M) : QL w' B l most ts F := by
  obtain ⟨R, ns, h1, h2, h3, rfl⟩ := h.ex
  exact ⟨⟨R, ns, h1.stay hs hd, h2, h3, rfl⟩, h.pos, h.few⟩
theorem QL.low {w : World} {B l most : Nat} {ts : List ByteArray} {F : List Nat} (h : QL w B l most ts F) : B ≤ w.heap.size := by
  obtain ⟨R, ns, h1, h2, h3, rfl⟩ := h.ex
  exact Nat.le_trans h1.lowl (Nat.le_of_lt h1.lt)
theorem QL.down {w : World} {B C l most : Nat} {ts : List ByteArray} {F : List Nat} (h : QL w B l most ts F) (hC : C ≤ B) : QL w C l most ts F := by
  obtain ⟨R, ns, h1, h2, h3, rfl⟩ := h.ex
  refine ⟨⟨R, ns, ⟨h1.blk, h1.ring, h1.adj, fun d hd => ?_, h1.num, Nat.le_trans hC h1.lowl, Nat.le_trans hC h1.lowR⟩, h2, h3, rfl⟩, h.pos, h.few⟩
  have hd := h1.nod d hd
  exact ⟨hd.blk, hd.pk.low' hC, hd.fit, hd.siz, Nat.le_trans hC hd.low⟩
theorem QDoes.below {w w' : World} {B l most : Nat} {ts : List ByteArray} {F F' : List Nat} (h : QL w B l most ts F) (hd : Left w w' F F') : Below B w w' := hd.stay.below (fun k hk => (h.blocks k hk).1) h.low
/-- A list's blocks are no rows of texts. -/
theorem Lst.tags {w : World} {B l R most cnt : Nat} {ns : List Nd} (h : Lst w B l R most cnt ns) : ∀ k ∈ l :: R :: fpN ns, ∃ cs t, w.heap[k]? = some (.cells cs t (0, 0)) ∧ t ≠ 9 ∧ t ≠ 3 := by
  intro k hk
  rcases List.mem_cons.1 hk with rfl | hk
  · exact ⟨_, _, h.blk, by decide, by decide⟩
  rcases List.mem_cons.1 hk with rfl | hk
  · obtain ⟨x, y, e⟩ := h.ring
    exact ⟨_, _, e, by decide, by decide⟩
  · obtain ⟨d, hd, hk⟩ := List.mem_flatMap.1 hk
    have hN := h.nod d hd
    rcases List.mem_cons.1 hk with rfl | hk
    · obtain ⟨x, y, e⟩ := hN.blk
      exact ⟨_, _, e, by decide, by decide⟩
    rcases List.mem_cons.1 hk with rfl | hk
    · exact ⟨_, _, hN.pk.blk, by decide, by decide⟩
    · rw [Option.mem_toList] at hk
      rcases hN.pk.own.2 with ⟨h2, -⟩ | ⟨g, c, cur, h1, h3, h4, -⟩
      · injection h2 with e1
        rw [e1] at hk; cases hk
      · injection h1 with e1
        rw [e1] at hk
        cases hk
        exact ⟨_, _, h4, by decide, by decide⟩
theorem QL.far {w : World} {B C l most : Nat} {ts : List ByteArray} {F : List Nat} (h : QL w B l most ts F) {a : Option Addr} {n c : Nat} {ls : List ByteArray} (hO : OwnS w C a n c ls) : ∀ x, a = some x → x.block ∉ F ∧ x.block < w.heap.size := by
  obtain ⟨R, ns, h1, h2, h3, rfl⟩ := h.ex
  intro x hx
  rcases hO.2 with ⟨e, -⟩ | ⟨g, c', cur, e, h4, h5, -⟩
  · injection e with e1
    rw [e1] at hx; cases hx
  · injection e with e1
    rw [e1] at hx
    cases hx
    refine ⟨fun hm => ?_, (Array.getElem?_eq_some_iff.1 h5).1⟩
    obtain ⟨cs, t, h6, h7, -⟩ := h1.tags _ hm
    rw [h5] at h6
    injection h6 with h6
    injection h6 with _ h8
    exact h7 h8.symm
theorem QL.row {w w' : World} {B C l most : Nat} {ts : List ByteArray} {F F' : List Nat} (h : QL w B l most ts F) {a : Option Addr} {n c : Nat} {ls : List ByteArray} (hO : OwnS w C a n c ls) (hd : Left w w' F F') : OwnS w' C a n c ls := by
  have hf := h.far hO
  refine ⟨hO.1, ?_⟩
  rcases hO.2 with h2 | ⟨g, c', cur, e, h4, h5, h6⟩
  · exact .inl h2
  · refine .inr ⟨g, c', cur, e, h4, ?_, h6⟩
    injection e with e1
    obtain ⟨k1, k2⟩ := hf _ e1
    rw [hd.stay.block g k2 k1]
    exact h5
theorem ok_len {most : Nat} : ∀ {ns : List Nd}, Ok most ns → ns.length ≤ (txN ns).length
  | [], _ => by simp
  | d :: r, h => by
    have h1 := (h d (by simp)).1
    have h2 := ok_len (ns := r) (fun x hx => h x (List.mem_cons_of_mem _ hx))
    rw [txN_cons, List.length_append, List.length_cons]; omega
end Go.Proofs.YtikimcbalkhooaaGreatDoor
