/- Texts that the others stand on. -/
import Derived.Test.YtmjeljldmmkcpabGreatG14
import Derived.Lib.Builder
import Derived.Deep.RegionHeld3
namespace Go.Proofs.YtmjeljldmmkcpabGreat
open Go.RowKit Go.PlainAid
/-- All is as it was, but for the blocks of M and what is new. -/
structure Stay (w w' : World) (M : List Nat) : Prop where
  os : w'.os = w.os
  tape : w'.tape = w.tape
  output : w'.output = w.output
  size : w.heap.size ≤ w'.heap.size
  block : ∀ k, k < w.heap.size → k ∉ M → w'.heap[k]? = w.heap[k]?
theorem Stay.of_below {w w' : World} (h : Below w.heap.size w w') (M : List Nat) : Stay w w' M := ⟨h.os, h.tape, h.output, h.size, fun k hk _ => h.block k hk⟩
theorem Stay.trans {w w1 w2 : World} {M M' : List Nat} (h : Stay w w1 M) (k : Stay w1 w2 M') (hM : ∀ i ∈ M', i ∈ M ∨ w.heap.size ≤ i) : Stay w w2 M :=
  ⟨k.os.trans h.os, k.tape.trans h.tape, k.output.trans h.output, Nat.le_trans h.size k.size, fun i hi hn =>
    (k.block i (Nat.lt_of_lt_of_le hi h.size) (fun hm => (hM i hm).elim hn (fun h1 => by omega))).trans (h.block i hi hn)⟩
theorem Stay.mono {w w' : World} {M M' : List Nat} (h : Stay w w' M) (hM : ∀ i ∈ M, i ∈ M') : Stay w w' M' :=
  ⟨h.os, h.tape, h.output, h.size, fun k hk hn => h.block k hk (fun hm => hn (hM k hm))⟩
theorem Stay.below {w w' : World} {M : List Nat} {B : Nat} (h : Stay w w' M) (hM : ∀ i ∈ M, B ≤ i) (hB : B ≤ w.heap.size) : Below B w w' :=
  ⟨h.os, h.tape, h.output, h.size, fun k hk => h.block k (Nat.lt_of_lt_of_le hk hB) (fun hm => by have := hM k hm; omega)⟩
theorem Stay.set {w : World} {q o : Nat} {v : Value} : Stay w (w.setCell ⟨q, o, none⟩ v) [q] :=
  ⟨rfl, rfl, rfl, by simp [World.setCell], fun k _ h1 => Below.heap_setCell _ _ _ _ (by simpa using h1)⟩
theorem Stay.of_moves {w w' : World} {p : Nat} {a : Option Addr} (h : Moves w w' p a) : Stay w w' (p :: (a.map (·.block)).toList) :=
  ⟨h.os, h.tape, h.output, h.size, fun k hk hn => h.block k hk (fun e => hn (by simp [e])) (fun e => hn (by rw [← e]; simp))⟩
/-- A node: where it lies, where its pack and the row of that; its texts. -/
structure Nd where
  a : Nat
  p : Nat
  r : Option Addr
  n : Nat
  c : Nat
  ls : List ByteArray
def Nd.fp (d : Nd) : List Nat := d.a :: d.p :: (d.r.map (·.block)).toList
def fpN (ns : List Nd) : List Nat := ns.flatMap Nd.fp
def txN (ns : List Nd) : List ByteArray := ns.flatMap Nd.ls
def adr (ns : List Nd) : List Nat := ns.map Nd.a
theorem fpN_append (a b : List Nd) : fpN (a ++ b) = fpN a ++ fpN b := List.flatMap_append ..
theorem fpN_cons (d : Nd) (b : List Nd) : fpN (d :: b) = d.fp ++ fpN b := List.flatMap_cons ..
theorem txN_append (a b : List Nd) : txN (a ++ b) = txN a ++ txN b := List.flatMap_append ..
theorem txN_cons (d : Nd) (b : List Nd) : txN (d :: b) = d.ls ++ txN b := List.flatMap_cons ..
theorem adr_append (a b : List Nd) : adr (a ++ b) = adr a ++ adr b := List.map_append ..
theorem adr_cons (d : Nd) (b : List Nd) : adr (d :: b) = d.a :: adr b := List.map_cons ..
theorem mem_fpN {ns : List Nd} {d : Nd} (h : d ∈ ns) {k : Nat} (hk : k ∈ d.fp) : k ∈ fpN ns := List.mem_flatMap.2 ⟨d, h, hk⟩
theorem adr_fpN {ns : List Nd} {k : Nat} (h : k ∈ adr ns) : k ∈ fpN ns := by
  obtain ⟨d, hd, rfl⟩ := List.mem_map.1 h
  exact mem_fpN hd (by simp [Nd.fp])
theorem adr_sub : ∀ ns : List Nd, (adr ns).Sublist (fpN ns)
  | [] => List.Sublist.slnil
  | d :: r => by
    rw [adr_cons, fpN_cons]
    show (d.a :: adr r).Sublist (d.a :: (d.p :: (d.r.map (·.block)).toList ++ fpN r))
    exact ((adr_sub r).trans (List.sublist_append_right _ _)).cons_cons _
/-- Where the first one lies, or the ring; where the last one. -/
def hdA (R : Nat) : List Nd → Nat
  | [] => R
  | d :: _ => d.a
def laA (R : Nat) (ns : List Nd) : Nat := match ns.getLast? with
  | none => R
  | some d => d.a
theorem laA_nil (R : Nat) : laA R [] = R := rfl
theorem laA_snoc (R : Nat) (ns : List Nd) (d : Nd) : laA R (ns ++ [d]) = d.a := by unfold laA; rw [List.getLast?_concat]
theorem snoc_ex (ns : List Nd) : ns = [] ∨ ∃ k d, ns = k ++ [d] := by
  rcases List.eq_nil_or_concat ns with h | ⟨k, d, h⟩
  · exact .inl h
  · exact .inr ⟨k, d, by rw [h, List.concat_eq_append]⟩
theorem laA_mem (R : Nat) (ns : List Nd) : laA R ns ∈ R :: adr ns := by
  rcases snoc_ex ns with rfl | ⟨k, d, rfl⟩
  · simp [laA_nil]
  · rw [laA_snoc, adr_append]; simp [adr]
theorem hdA_mem (R : Nat) (ns : List Nd) : hdA R ns ∈ R :: adr ns := by
  cases ns with
  | nil => simp [hdA]
  | cons d r => simp [hdA, adr]
/-- The ring's row parts at a gap. -/
theorem fore_ex (R : Nat) (l1 : List Nd) : ∃ X, R :: adr l1 = X ++ [laA R l1] := by
  rcases snoc_ex l1 with rfl | ⟨k, d, rfl⟩
  · exact ⟨[], rfl⟩
  · exact ⟨R :: adr k, by rw [laA_snoc, adr_append]; rfl⟩
theorem back_ex (R : Nat) (l2 : List Nd) : ∃ Y, adr l2 ++ [R] = hdA R l2 :: Y := by
  cases l2 with
  | nil => exact ⟨[], rfl⟩
  | cons d r => exact ⟨adr r ++ [R], rfl⟩
/-- Neighbours know each other. -/
def Adj (w : World) : List Nat → Prop
  | u :: v :: r => (w.cell? ⟨u, 2, none⟩ = some (ptr v) ∧ w.cell? ⟨v, 1, none⟩ = some (ptr u)) ∧ Adj w (v :: r)
  | _ => True
theorem Adj_append (w : World) (u : Nat) (Z : List Nat) : ∀ X : List Nat, Adj w (X ++ u :: Z) ↔ Adj w (X ++ [u]) ∧ Adj w (u :: Z)
  | [] => by simp [Adj]
  | [x] => by simp [Adj]
  | x :: y :: r => by
    have := Adj_append w u Z (y :: r)
    simp only [List.cons_append] at this ⊢
    simp only [Adj]
    rw [this]
    simp only [and_assoc]
theorem Adj_congr {w w' : World} : ∀ L : List Nat, (∀ k ∈ L.dropLast, w'.cell? ⟨k, 2, none⟩ = w.cell? ⟨k, 2, none⟩) → (∀ k ∈ L.tail, w'.cell? ⟨k, 1, none⟩ = w.cell? ⟨k, 1, none⟩) → Adj w L → Adj w' L
  | [], _, _, _ => trivial
  | [_], _, _, _ => trivial
  | u :: v :: r, h1, h2, h => by
    refine ⟨⟨?_, ?_⟩, Adj_congr (v :: r) (fun k hk => h1 k (by rw [List.dropLast_cons_cons]; exact List.mem_cons_of_mem _ hk)) (fun k hk => h2 k (List.mem_cons_of_mem _ hk)) h.2⟩
    · rw [h1 u (by rw [List.dropLast_cons_cons]; simp)]; exact h.1.1
    · rw [h2 v (by simp)]; exact h.1.2
/-- A node in memory. -/
structure Nod (w : World) (B : Nat) (d : Nd) : Prop where
  blk : ∃ x y, w.heap[d.a]? = some (.cells #[ptr d.p, x, y] 74 (0, 0))
  pk : Pk w B d.p d.r d.n d.c d.ls
  fit : Fit d.ls
  siz : d.n ≤ 65536
  low : B ≤ d.a
theorem Nod.lt {w : World} {B : Nat} {d : Nd} (h : Nod w B d) : d.a < w.heap.size := by
  obtain ⟨x, y, e⟩ := h.blk
  exact (Array.getElem?_eq_some_iff.1 e).1
theorem Nod.fplt {w : World} {B : Nat} {d : Nd} (h : Nod w B d) : ∀ k ∈ d.fp, B ≤ k ∧ k < w.heap.size := by
  intro k hk
  rcases List.mem_cons.1 hk with rfl | hk
  · exact ⟨h.low, h.lt⟩
  rcases List.mem_cons.1 hk with rfl | hk
  · exact ⟨h.pk.low, h.pk.lt⟩
  · rw [Option.mem_toList] at hk
    exact h.pk.own.lt k (by rw [← hk]; cases d.r <;> rfl)
theorem Own.stay {w w' : World} {B : Nat} {a : Option Addr} {n c : Nat} {l : List UInt8} {M : List Nat} (h : Own w B a n c l) (hs : Stay w w' M) (hd : ∀ k ∈ (a.map (·.block)).toList, k ∉ M) : Own w' B a n c l := by
  refine ⟨h.1, ?_⟩
  rcases h.2 with h2 | ⟨g, c', cur, h1, h3, h4, h5⟩
  · exact .inl h2
  · refine .inr ⟨g, c', cur, h1, h3, ?_, h5⟩
    rw [hs.block g (Array.getElem?_eq_some_iff.1 h4).1 (hd g (by injection h1 with e1; rw [e1]; simp))]
    exact h4
theorem Pk.stay {w w' : World} {B p : Nat} {a : Option Addr} {n c : Nat} {ls : List ByteArray} {M : List Nat} (h : Pk w B p a n c ls) (hs : Stay w w' M) (hp : p ∉ M) (hd : ∀ k ∈ (a.map (·.block)).toList, k ∉ M) : Pk w' B p a n c ls :=
  ⟨by rw [hs.block p h.lt hp]; exact h.blk, h.low, h.own.stay hs hd⟩
theorem Nod.stay {w w' : World} {B : Nat} {d : Nd} {M : List Nat} (h : Nod w B d) (hs : Stay w w' M) (hd : ∀ k ∈ d.fp, k ∉ M) : Nod w' B d := by
  refine ⟨?_, h.pk.stay hs (hd _ (by simp [Nd.fp])) (fun k hk => hd k (by simp only [Nd.fp, List.mem_cons]; exact .inr (.inr hk))), h.fit, h.siz, h.low⟩
  rw [hs.block d.a h.lt (hd _ (by simp [Nd.fp]))]
  exact h.blk
/-- A node's block turned elsewhere than at its pack. -/
theorem Nod.turn {w w' : World} {B : Nat} {d : Nd} (h : Nod w B d) (hp : w'.heap[d.p]? = w.heap[d.p]?) (hr : ∀ k ∈ (d.r.map (·.block)).toList, w'.heap[k]? = w.heap[k]?) (hb : ∃ x y, w'.heap[d.a]? = some (.cells #[ptr d.p, x, y] 74 (0, 0))) : Nod w' B d := by
  refine ⟨hb, ⟨by rw [hp]; exact h.pk.blk, h.pk.low, ?_⟩, h.fit, h.siz, h.low⟩
  refine ⟨h.pk.own.1, ?_⟩
  rcases h.pk.own.2 with h2 | ⟨g, c', cur, h1, h3, h4, h5⟩
  · exact .inl h2
  · refine .inr ⟨g, c', cur, h1, h3, ?_, h5⟩
    rw [hr g (by injection h1 with e1; rw [e1]; simp)]
    exact h4
/-- A list in memory: at l, its ring at R. -/
structure Lst (w : World) (B l R most cnt : Nat) (ns : List Nd) : Prop where
  blk : w.heap[l]? = some (.cells #[.int .i64 (most : Nat), .int .i64 (cnt : Nat), ptr R] 76 (0, 0))
  ring : ∃ x y, w.heap[R]? = some (.cells #[.pointer none, x, y] 74 (0, 0))
  adj : Adj w (R :: adr ns ++ [R])
  nod : ∀ d ∈ ns, Nod w B d
  num : (l :: R :: fpN ns).Nodup
  lowl : B ≤ l
  lowR : B ≤ R
theorem Lst.lt {w : World} {B l R most cnt : Nat} {ns : List Nd} (h : Lst w B l R most cnt ns) : l < w.heap.size := (Array.getElem?_eq_some_iff.1 h.blk).1
theorem Lst.ltR {w : World} {B l R most cnt : Nat} {ns : List Nd} (h : Lst w B l R most cnt ns) : R < w.heap.size := by
  obtain ⟨x, y, e⟩ := h.ring
  exact (Array.getElem?_eq_some_iff.1 e).1
theorem Lst.fplt {w : World} {B l R most cnt : Nat} {ns : List Nd} (h : Lst w B l R most cnt ns) : ∀ k ∈ l :: R :: fpN ns, B ≤ k ∧ k < w.heap.size := by
  intro k hk
  rcases List.mem_cons.1 hk with rfl | hk
  · exact ⟨h.lowl, h.lt⟩
  rcases List.mem_cons.1 hk with rfl | hk
  · exact ⟨h.lowR, h.ltR⟩
  · obtain ⟨d, hd, hk⟩ := List.mem_flatMap.1 hk
    exact (h.nod d hd).fplt k hk
theorem Lst.numA {w : World} {B l R most cnt : Nat} {ns : List Nd} (h : Lst w B l R most cnt ns) : (R :: adr ns).Nodup := by
  have := (List.nodup_cons.1 h.num).2
  exact this.sublist ((adr_sub ns).cons_cons _)
theorem Lst.adlt {w : World} {B l R most cnt : Nat} {ns : List Nd} (h : Lst w B l R most cnt ns) : ∀ k ∈ R :: adr ns, k < w.heap.size ∧ k ≠ l := by
  intro k hk
  have hk2 : k ∈ R :: fpN ns := by
    rcases List.mem_cons.1 hk with rfl | hk
    · simp
    · exact List.mem_cons_of_mem _ (adr_fpN hk)
  refine ⟨(h.fplt k (List.mem_cons_of_mem _ hk2)).2, fun e => ?_⟩
  subst e
  exact (List.nodup_cons.1 h.num).1 hk2
theorem Lst.stay {w w' : World} {B l R most cnt : Nat} {ns : List Nd} {M : List Nat} (h : Lst w B l R most cnt ns) (hs : Stay w w' M) (hd : ∀ k ∈ l :: R :: fpN ns, k ∉ M) : Lst w' B l R most cnt ns := by
  have hc : ∀ k ∈ R :: adr ns, ∀ o, w'.cell? ⟨k, o, none⟩ = w.cell? ⟨k, o, none⟩ := fun k hk o =>
    World.cell?_of_block (hs.block k (h.adlt k hk).1 (hd k (List.mem_cons_of_mem _ (by
      rcases List.mem_cons.1 hk with rfl | hk
      · simp
      · exact List.mem_cons_of_mem _ (adr_fpN hk)))))
  refine ⟨by rw [hs.block l h.lt (hd _ (by simp))]; exact h.blk, by rw [hs.block R h.ltR (hd _ (by simp))]; exact h.ring, ?_, fun d hdm => (h.nod d hdm).stay hs (fun k hk => hd k (List.mem_cons_of_mem _ (List.mem_cons_of_mem _ (mem_fpN hdm hk)))), h.num, h.lowl, h.lowR⟩
  refine Adj_congr _ (fun k hk => hc k ?_ 2) (fun k hk => hc k ?_ 1) h.adj
  · rw [List.dropLast_concat] at hk; exact hk
  · simp only [List.cons_append, List.tail_cons, List.mem_append, List.mem_singleton] at hk
    rcases hk with hk | rfl
    · exact List.mem_cons_of_mem _ hk
    · simp
theorem Lst.keep {w w' : World} {B l R most cnt : Nat} {ns : List Nd} (h : Lst w B l R most cnt ns) (hb : Below w.heap.size w w') : Lst w' B l R most cnt ns := h.stay (Stay.of_below hb []) (fun _ _ => by simp)
theorem Lst.cmost {w : World} {B l R most cnt : Nat} {ns : List Nd} (h : Lst w B l R most cnt ns) : w.cell? ⟨l, 0, none⟩ = some (.int .i64 (most : Nat)) := by simp [World.cell?, h.blk]
theorem Lst.ccnt {w : World} {B l R most cnt : Nat} {ns : List Nd} (h : Lst w B l R most cnt ns) : w.cell? ⟨l, 1, none⟩ = some (.int .i64 (cnt : Nat)) := by simp [World.cell?, h.blk]
theorem Lst.cring {w : World} {B l R most cnt : Nat} {ns : List Nd} (h : Lst w B l R most cnt ns) : w.cell? ⟨l, 2, none⟩ = some (ptr R) := by simp [World.cell?, h.blk]
theorem Lst.frozen {w : World} {B l R most cnt : Nat} {ns : List Nd} (h : Lst w B l R most cnt ns) (o : Nat) : w.frozen? ⟨l, o, none⟩ = false := by simp [World.frozen?, h.blk]
theorem Lst.nfrozen {w : World} {B l R most cnt : Nat} {ns : List Nd} (h : Lst w B l R most cnt ns) {k : Nat} (hk : k ∈ R :: adr ns) (o : Nat) : w.frozen? ⟨k, o, none⟩ = false := by
  rcases List.mem_cons.1 hk with rfl | hk
  · obtain ⟨x, y, e⟩ := h.ring; simp [World.frozen?, e]
  · obtain ⟨d, hd, rfl⟩ := List.mem_map.1 hk
    obtain ⟨x, y, e⟩ := (h.nod d hd).blk; simp [World.frozen?, e]
theorem Lst.cpk {w : World} {B l R most cnt : Nat} {ns : List Nd} (h : Lst w B l R most cnt ns) {d : Nd} (hd : d ∈ ns) : w.cell? ⟨d.a, 0, none⟩ = some (ptr d.p) := by
  obtain ⟨x, y, e⟩ := (h.nod d hd).blk; simp [World.cell?, e]
/-- What two neighbours know. -/
theorem Lst.gap {w : World} {B l R most cnt : Nat} {l1 l2 : List Nd} (h : Lst w B l R most cnt (l1 ++ l2)) : w.cell? ⟨laA R l1, 2, none⟩ = some (ptr (hdA R l2)) ∧ w.cell? ⟨hdA R l2, 1, none⟩ = some (ptr (laA R l1)) := by
  have ha := h.adj
  obtain ⟨X, hX⟩ := fore_ex R l1
  obtain ⟨Y, hY⟩ := back_ex R l2
  have e : R :: adr (l1 ++ l2) ++ [R] = X ++ laA R l1 :: hdA R l2 :: Y := by
    rw [adr_append, ← hY]
    have : R :: (adr l1 ++ adr l2) ++ [R] = (R :: adr l1) ++ (adr l2 ++ [R]) := by simp
    rw [this, hX]; simp
  rw [e, Adj_append] at ha
  exact ha.2.1
theorem Lst.ne_ring {w : World} {B l R most cnt : Nat} {ns : List Nd} (h : Lst w B l R most cnt ns) {d : Nd} (hd : d ∈ ns) : d.a ≠ R := by
  intro e
  have := (List.nodup_cons.1 h.numA).1
  exact this (by rw [← e]; exact List.mem_map_of_mem hd)
/-- What a call on a list leaves as it was: all but the list and what is new. -/
structure Goes (w w' : World) (l R : Nat) (ns ns' : List Nd) : Prop where
  stay : Stay w w' (l :: R :: fpN ns)
  new : ∀ k ∈ fpN ns', k ∈ fpN ns ∨ w.heap.size ≤ k
theorem Goes.of_below {w w' : World} (h : Below w.heap.size w w') (l R : Nat) (ns : List Nd) : Goes w w' l R ns ns := ⟨Stay.of_below h _, fun _ hk => .inl hk⟩
theorem Goes.refl (w : World) (l R : Nat) (ns : List Nd) : Goes w w l R ns ns := Goes.of_below (Below.refl _ _) l R ns
theorem Goes.trans {w w1 w2 : World} {l R : Nat} {ns ns1 ns2 : List Nd} (h : Goes w w1 l R ns ns1) (k : Goes w1 w2 l R ns1 ns2) : Goes w w2 l R ns ns2 := by
  refine ⟨h.stay.trans k.stay ?_, ?_⟩
  · intro i hi
    simp only [List.mem_cons] at hi ⊢
    rcases hi with rfl | rfl | hi
    · simp
    · simp
    · exact (h.new i hi).imp (fun h => .inr (.inr h)) id
  · intro i hi
    rcases k.new i hi with h1 | h1
    · exact h.new i h1
    · exact .inr (Nat.le_trans h.stay.size h1)
theorem Goes.first {w w1 w2 : World} {l R : Nat} {ns ns' : List Nd} (hb : Below w.heap.size w w1) (h : Goes w1 w2 l R ns ns') : Goes w w2 l R ns ns' := (Goes.of_below hb l R ns).trans h
theorem fp_perm (l R : Nat) (l1 l2 : List Nd) (d : Nd) : (l :: R :: fpN (l1 ++ d :: l2)).Perm (d.fp ++ (l :: R :: fpN (l1 ++ l2))) := by
  rw [fpN_append, fpN_cons, fpN_append]
  have h1 : (fpN l1 ++ (d.fp ++ fpN l2)).Perm (d.fp ++ (fpN l1 ++ fpN l2)) := by
    rw [← List.append_assoc, ← List.append_assoc]; exact List.perm_append_comm.append_right _
  refine ((h1.cons R).cons l).trans ?_
  generalize fpN l1 ++ fpN l2 = E
  have h2 : ([l, R] ++ (d.fp ++ E)).Perm (d.fp ++ ([l, R] ++ E)) := by
    rw [← List.append_assoc, ← List.append_assoc]; exact List.perm_append_comm.append_right _
  exact h2
/-- A node's blocks are no others'. -/
theorem Lst.apart {w : World} {B l R most cnt : Nat} {l1 l2 : List Nd} {d : Nd} (h : Lst w B l R most cnt (l1 ++ d :: l2)) : d.fp.Nodup ∧ (l :: R :: fpN (l1 ++ l2)).Nodup ∧ ∀ k ∈ l :: R :: fpN (l1 ++ l2), k ∉ d.fp := by
  have := (fp_perm l R l1 l2 d).nodup_iff.1 h.num
  rw [List.nodup_append] at this
  exact ⟨this.1, this.2.1, fun k hk hd => this.2.2 k hd k hk rfl⟩
theorem mem_mid {l1 l2 : List Nd} {e : Nd} (h : e ∈ l1 ++ l2) (d : Nd) : e ∈ l1 ++ d :: l2 := by
  rcases List.mem_append.1 h with h | h
  · exact List.mem_append_left _ h
  · exact List.mem_append_right _ (List.mem_cons_of_mem _ h)
theorem mem_or {l1 l2 : List Nd} {e d : Nd} (h : e ∈ l1 ++ d :: l2) : e = d ∨ e ∈ l1 ++ l2 := by
  rcases List.mem_append.1 h with h | h
  · exact .inr (List.mem_append_left _ h)
  · rcases List.mem_cons.1 h with h | h
    · exact .inl h
    · exact .inr (List.mem_append_right _ h)
theorem mem_sub {l R k : Nat} {l1 l2 : List Nd} {e : Nd} (he : e ∈ l1 ++ l2) (hk : k ∈ e.fp) : k ∈ l :: R :: fpN (l1 ++ l2) := List.mem_cons_of_mem _ (List.mem_cons_of_mem _ (mem_fpN he hk))
/-- Another node in the place of one, at the same address. -/
theorem Lst.put {w w' : World} {B l R most cnt : Nat} {l1 l2 : List Nd} {d d' : Nd} (h : Lst w B l R most cnt (l1 ++ d :: l2)) (ha : d'.a = d.a) {M : List Nat} (hs : Stay w w' M) (hM : ∀ k ∈ M, k ∈ d.fp)
    (hc : ∀ o, o = 1 ∨ o = 2 → w'.cell? ⟨d.a, o, none⟩ = w.cell? ⟨d.a, o, none⟩) (hN : Nod w' B d') (hnd : d'.fp.Nodup) (hnew : ∀ k ∈ d'.fp, k ∈ d.fp ∨ w.heap.size ≤ k) : Lst w' B l R most cnt (l1 ++ d' :: l2) ∧ Goes w w' l R (l1 ++ d :: l2) (l1 ++ d' :: l2) := by
  obtain ⟨hn1, hn2, hn3⟩ := h.apart
  have hlt : ∀ k ∈ l :: R :: fpN (l1 ++ l2), k < w.heap.size := fun k hk => (h.fplt k ((fp_perm l R l1 l2 d).mem_iff.2 (List.mem_append_right _ hk))).2
  have hbk : ∀ k ∈ l :: R :: fpN (l1 ++ l2), w'.heap[k]? = w.heap[k]? := fun k hk => hs.block k (hlt k hk) (fun hm => hn3 k hk (hM k hm))
  have hadr : adr (l1 ++ d' :: l2) = adr (l1 ++ d :: l2) := by rw [adr_append, adr_append, adr_cons, adr_cons, ha]
  have hcell : ∀ k ∈ R :: adr (l1 ++ d :: l2), ∀ o, o = 1 ∨ o = 2 → w'.cell? ⟨k, o, none⟩ = w.cell? ⟨k, o, none⟩ := by
    intro k hk o ho
    by_cases hkd : k = d.a
    · subst hkd; exact hc o ho
    · refine World.cell?_of_block (hbk k ?_)
      rcases List.mem_cons.1 hk with rfl | hk
      · simp
      · obtain ⟨e, he, rfl⟩ := List.mem_map.1 hk
        rcases mem_or he with rfl | he
        · exact absurd rfl hkd
        · exact mem_sub he (by simp [Nd.fp])
  refine ⟨⟨by rw [hbk l (by simp)]; exact h.blk, by rw [hbk R (by simp)]; exact h.ring, ?_, ?_, ?_, h.lowl, h.lowR⟩, ?_, ?_⟩
  · rw [hadr]
    refine Adj_congr _ (fun k hk => hcell k ?_ 2 (.inr rfl)) (fun k hk => hcell k ?_ 1 (.inl rfl)) h.adj
    · rw [List.dropLast_concat] at hk; exact hk
    · simp only [List.cons_append, List.tail_cons, List.mem_append, List.mem_singleton] at hk
      rcases hk with hk | rfl
      · exact List.mem_cons_of_mem _ hk
      · simp
  · intro e he
    rcases mem_or he with rfl | he
    · exact hN
    · exact (h.nod e (mem_mid he d)).stay hs (fun k hk hm => hn3 k (mem_sub he hk) (hM k hm))
  · refine (fp_perm l R l1 l2 d').nodup_iff.2 (List.nodup_append.2 ⟨hnd, hn2, ?_⟩)
    intro k hk j hj e
    subst e
    rcases hnew k hk with h1 | h1
    · exact hn3 k hj h1
    · have := hlt k hj; omega
  · refine hs.mono fun k hk => ?_
    exact (fp_perm l R l1 l2 d).mem_iff.2 (List.mem_append_left _ (hM k hk))
  · intro k hk
    rw [fpN_append, fpN_cons] at hk ⊢
    simp only [List.mem_append] at hk ⊢
    rcases hk with hk | hk | hk
    · exact .inl (.inl hk)
    · exact (hnew k hk).imp (fun h => .inr (.inl h)) id
    · exact .inl (.inr (.inr hk))
/-- A pack has turned. -/
theorem Lst.turn {w w' : World} {B l R most cnt : Nat} {l1 l2 : List Nd} {d : Nd} (h : Lst w B l R most cnt (l1 ++ d :: l2)) {r' : Option Addr} {n' c' : Nat} {ls' : List ByteArray} (hm : Moves w w' d.p d.r) (hp : Pk w' B d.p r' n' c' ls') (hw : Went w d.r r') (hf : Fit ls') (hn : n' ≤ 65536) :
    Lst w' B l R most cnt (l1 ++ ⟨d.a, d.p, r', n', c', ls'⟩ :: l2) ∧ Goes w w' l R (l1 ++ d :: l2) (l1 ++ ⟨d.a, d.p, r', n', c', ls'⟩ :: l2) := by
  obtain ⟨hn1, -, -⟩ := h.apart
  have hd := h.nod d (by simp)
  have h1 : d.a ∉ d.p :: (d.r.map (·.block)).toList := (List.nodup_cons.1 hn1).1
  have h2 := List.nodup_cons.1 (List.nodup_cons.1 hn1).2
  have hs := Stay.of_moves hm
  have hbl : w'.heap[d.a]? = w.heap[d.a]? := hs.block d.a hd.lt h1
  have hnw : ∀ k ∈ (r'.map (·.block)).toList, k ∈ (d.r.map (·.block)).toList ∨ w.heap.size ≤ k := fun k hk => by
    rw [Option.mem_toList] at hk ⊢
    exact hw.blk hk
  refine h.put (d' := ⟨d.a, d.p, r', n', c', ls'⟩) rfl hs (fun k hk => List.mem_cons_of_mem _ hk) (fun o _ => World.cell?_of_block hbl) ⟨by rw [hbl]; exact hd.blk, hp, hf, hn, hd.low⟩ ?_ ?_
  · show (d.a :: d.p :: (r'.map (·.block)).toList).Nodup
    have hlt := hd.fplt
    have ha := (hlt d.a (by simp [Nd.fp])).2
    have hpp := (hlt d.p (by simp [Nd.fp])).2
    refine List.nodup_cons.2 ⟨fun hm => ?_, List.nodup_cons.2 ⟨fun hm => ?_, ?_⟩⟩
    · rcases List.mem_cons.1 hm with e | hm
      · exact h1 (by rw [e]; simp)
      · rcases hnw _ hm with h3 | h3
        · exact h1 (List.mem_cons_of_mem _ h3)
        · omega
    · rcases hnw _ hm with h3 | h3
      · exact h2.1 h3
      · omega
    · cases r' <;> simp
  · intro k hk
    rcases List.mem_cons.1 hk with rfl | hk
    · exact .inl (by simp [Nd.fp])
    rcases List.mem_cons.1 hk with rfl | hk
    · exact .inl (by simp [Nd.fp])
    · exact (hnw k hk).imp (fun h => List.mem_cons_of_mem _ (List.mem_cons_of_mem _ h)) id
theorem heap_set {w : World} {b o : Nat} {cs : Array Value} {t : TypeId} (h : w.heap[b]? = some (.cells cs t (0, 0))) (v : Value) : (w.setCell ⟨b, o, none⟩ v).heap[b]? = some (.cells (cs.setIfInBounds o v) t (0, 0)) := by
  simp [World.setCell, Array.getElem?_modify, h]
theorem heap_other {w : World} {b o k : Nat} (v : Value) (h : k ≠ b) : (w.setCell ⟨b, o, none⟩ v).heap[k]? = w.heap[k]? := Below.heap_setCell _ _ _ _ h
/-- The count has turned. -/
theorem Lst.count {w : World} {B l R most cnt : Nat} {ns : List Nd} (h : Lst w B l R most cnt ns) (c' : Nat) : Lst (w.setCell ⟨l, 1, none⟩ (.int .i64 (c' : Nat))) B l R most c' ns ∧ Goes w (w.setCell ⟨l, 1, none⟩ (.int .i64 (c' : Nat))) l R ns ns := by
  have hs : Stay w (w.setCell ⟨l, 1, none⟩ (.int .i64 (c' : Nat))) [l] := Stay.set
  have hne : ∀ k ∈ R :: fpN ns, k ≠ l := fun k hk e => (List.nodup_cons.1 h.num).1 (e ▸ hk)
  have hbk : ∀ k ∈ R :: fpN ns, (w.setCell ⟨l, 1, none⟩ (.int .i64 (c' : Nat))).heap[k]? = w.heap[k]? := fun k hk => heap_other _ (hne k hk)
  have hcell : ∀ k ∈ R :: adr ns, ∀ o, (w.setCell ⟨l, 1, none⟩ (.int .i64 (c' : Nat))).cell? ⟨k, o, none⟩ = w.cell? ⟨k, o, none⟩ := fun k hk o => World.cell?_of_block (hbk k (by
    rcases List.mem_cons.1 hk with rfl | hk
    · simp
    · exact List.mem_cons_of_mem _ (adr_fpN hk)))
  refine ⟨⟨by rw [heap_set h.blk]; rfl, by rw [hbk R (by simp)]; exact h.ring, ?_, fun d hd => (h.nod d hd).stay hs (fun k hk => by simpa using hne k (List.mem_cons_of_mem _ (mem_fpN hd hk))), h.num, h.lowl, h.lowR⟩, hs.mono (by simp), fun _ hk => .inl hk⟩
  refine Adj_congr _ (fun k hk => hcell k ?_ 2) (fun k hk => hcell k ?_ 1) h.adj
  · rw [List.dropLast_concat] at hk; exact hk
  · simp only [List.cons_append, List.tail_cons, List.mem_append, List.mem_singleton] at hk
    rcases hk with hk | rfl
    · exact List.mem_cons_of_mem _ hk
    · simp
/-- A node's block with another neighbour is a node's block. -/
theorem nb_set {w : World} {k q o : Nat} {P v : Value} (h : ∃ x y, w.heap[k]? = some (.cells #[P, x, y] 74 (0, 0))) (ho : o = 1 ∨ o = 2) : ∃ x y, (w.setCell ⟨q, o, none⟩ v).heap[k]? = some (.cells #[P, x, y] 74 (0, 0)) := by
  obtain ⟨x, y, e⟩ := h
  by_cases hk : k = q
  · subst hk
    rw [heap_set e]
    rcases ho with rfl | rfl
    · exact ⟨v, y, rfl⟩
    · exact ⟨x, v, rfl⟩
  · exact ⟨x, y, by rw [heap_other _ hk]; exact e⟩
theorem nb_cell {w : World} {k : Nat} {P : Value} (h : ∃ x y, w.heap[k]? = some (.cells #[P, x, y] 74 (0, 0))) : (∃ x, w.cell? ⟨k, 1, none⟩ = some x) ∧ ∃ y, w.cell? ⟨k, 2, none⟩ = some y := by
  obtain ⟨x, y, e⟩ := h
  exact ⟨⟨x, by simp [World.cell?, e]⟩, ⟨y, by simp [World.cell?, e]⟩⟩
theorem Lst.nb {w : World} {B l R most cnt : Nat} {ns : List Nd} (h : Lst w B l R most cnt ns) {k : Nat} (hk : k ∈ R :: adr ns) : ∃ P x y, w.heap[k]? = some (.cells #[P, x, y] 74 (0, 0)) := by
  rcases List.mem_cons.1 hk with rfl | hk
  · exact ⟨_, h.ring⟩
  · obtain ⟨d, hd, rfl⟩ := List.mem_map.1 hk
    exact ⟨_, (h.nod d hd).blk⟩
/-- A world in which some nodes' neighbours have turned: all else is as it was. -/
theorem Lst.rewire {w w' : World} {B l R most cnt : Nat} {ns ns' : List Nd} {M : List Nat} (h : Lst w B l R most cnt ns) (hs : Stay w w' M) (hM : ∀ k ∈ M, k ∈ R :: adr ns)
    (hb : ∀ k ∈ R :: adr ns, ∀ P, (∃ x y, w.heap[k]? = some (.cells #[P, x, y] 74 (0, 0))) → ∃ x y, w'.heap[k]? = some (.cells #[P, x, y] 74 (0, 0)))
    (hadj : Adj w' (R :: adr ns' ++ [R])) (hn : ∀ d ∈ ns', d ∈ ns ∨ Nod w' B d) (hnum : (l :: R :: fpN ns').Nodup) : Lst w' B l R most cnt ns' := by
  have hlM : l ∉ M := fun hm => (h.adlt l (hM l hm)).2 rfl
  refine ⟨by rw [hs.block l h.lt hlM]; exact h.blk, hb R (by simp) _ h.ring, hadj, fun d hd => ?_, hnum, h.lowl, h.lowR⟩
  rcases hn d hd with hd2 | hd2
  · have hN := h.nod d hd2
    obtain ⟨a, c, e⟩ := List.append_of_mem hd2
    subst e
    obtain ⟨k1, k2, k3⟩ := h.apart
    have hfar : ∀ k ∈ d.p :: (d.r.map (·.block)).toList, k ∉ M := by
      intro k hk hm
      rcases List.mem_cons.1 (hM k hm) with e | hm2
      · subst e
        exact k3 k (by simp) (List.mem_cons_of_mem _ hk)
      · obtain ⟨e, he, rfl⟩ := List.mem_map.1 hm2
        rcases mem_or he with rfl | he
        · exact (List.nodup_cons.1 k1).1 hk
        · exact k3 e.a (mem_sub he (by simp [Nd.fp])) (List.mem_cons_of_mem _ hk)
    refine hN.turn (hs.block d.p hN.pk.lt (hfar _ (by simp))) (fun k hk => hs.block k (hN.fplt k (List.mem_cons_of_mem _ (List.mem_cons_of_mem _ hk))).2 (hfar k (List.mem_cons_of_mem _ hk))) (hb d.a (List.mem_cons_of_mem _ (List.mem_map_of_mem hd2)) _ hN.blk)
  · exact hd2
theorem cell_ne {w : World} {q o k j : Nat} {v : Value} (h : ¬ (k = q ∧ j = o)) : (w.setCell ⟨q, o, none⟩ v).cell? ⟨k, j, none⟩ = w.cell? ⟨k, j, none⟩ := by
  apply World.cell?_setCell_other
  intro e
  injection e with e1 e2
  exact h ⟨e1.symm, e2.symm⟩
theorem cell_eq {w : World} {q o : Nat} {v x : Value} (h : w.cell? ⟨q, o, none⟩ = some x) : (w.setCell ⟨q, o, none⟩ v).cell? ⟨q, o, none⟩ = some v := by
  apply World.cell?_setCell_same
  exact h
theorem nod_of_snoc {X : List Nat} {u : Nat} {A : List Nat} (h : A = X ++ [u]) (hn : A.Nodup) : u ∉ X := by
  subst h
  rw [List.nodup_append] at hn
  exact fun hm => hn.2.2 u hm u (by simp) rfl
/-- The two neighbours at a gap. -/
theorem gap_split (R : Nat) (l1 l2 : List Nd) (hn : (R :: adr (l1 ++ l2)).Nodup) : ∃ X Y, R :: adr l1 = X ++ [laA R l1] ∧ adr l2 ++ [R] = hdA R l2 :: Y ∧ laA R l1 ∉ X ∧ laA R l1 ∉ adr l2 ∧ hdA R l2 ∉ Y ∧ hdA R l2 ∉ adr l1 := by
  obtain ⟨X, hX⟩ := fore_ex R l1
  obtain ⟨Y, hY⟩ := back_ex R l2
  rw [adr_append] at hn
  have h1 : ((R :: adr l1) ++ adr l2).Nodup := hn
  have h2 : (adr l1 ++ (adr l2 ++ [R])).Nodup := by
    rw [← List.append_assoc]
    exact ((List.perm_append_singleton R (adr l1 ++ adr l2)).nodup_iff).2 hn
  rw [List.nodup_append] at h1 h2
  refine ⟨X, Y, hX, hY, nod_of_snoc hX h1.1, fun hm => h1.2.2 _ (laA_mem R l1) _ hm rfl, ?_, fun hm => h2.2.2 _ hm (hdA R l2) (by rw [hY]; simp) rfl⟩
  have h3 := h2.2.1
  rw [hY] at h3
  exact (List.nodup_cons.1 h3).1
theorem ring_row (R : Nat) (l1 l2 : List Nd) : R :: adr (l1 ++ l2) ++ [R] = (R :: adr l1) ++ (adr l2 ++ [R]) := by rw [adr_append]; simp
/-- Two neighbours are made known to each other. -/
theorem Adj_meet {w w' : World} {X Y : List Nat} {u v : Nat} (h1 : Adj w (X ++ [u])) (h2 : Adj w (v :: Y)) (hu : w'.cell? ⟨u, 2, none⟩ = some (ptr v)) (hv : w'.cell? ⟨v, 1, none⟩ = some (ptr u))
    (hX2 : ∀ k ∈ X, w'.cell? ⟨k, 2, none⟩ = w.cell? ⟨k, 2, none⟩) (hX1 : ∀ k ∈ (X ++ [u]).tail, w'.cell? ⟨k, 1, none⟩ = w.cell? ⟨k, 1, none⟩)
    (hY2 : ∀ k ∈ (v :: Y).dropLast, w'.cell? ⟨k, 2, none⟩ = w.cell? ⟨k, 2, none⟩) (hY1 : ∀ k ∈ Y, w'.cell? ⟨k, 1, none⟩ = w.cell? ⟨k, 1, none⟩) : Adj w' (X ++ u :: v :: Y) := by
  rw [Adj_append]
  exact ⟨Adj_congr _ (by rw [List.dropLast_concat]; exact hX2) hX1 h1, ⟨hu, hv⟩, Adj_congr _ hY2 hY1 h2⟩
/-- What a ring is behind link. -/
theorem Lst.ins {w : World} {B l R most cnt : Nat} {l1 l2 : List Nd} (h : Lst w B l R most cnt (l1 ++ l2)) {p : Nat} {r : Option Addr} {n c : Nat} {ls : List ByteArray} (hP : Pk w B p r n c ls) (hf : Fit ls) (hn : n ≤ 65536) (hnd : (p :: (r.map (·.block)).toList).Nodup) (hdis : ∀ k ∈ p :: (r.map (·.block)).toList, k ∉ l :: R :: fpN (l1 ++ l2)) {w' : World}
    (hw : w' = ((w.alloc (.cells #[ptr p, ptr (laA R l1), ptr (hdA R l2)] 74)).setCell ⟨hdA R l2, 1, none⟩ (ptr w.heap.size)).setCell ⟨laA R l1, 2, none⟩ (ptr w.heap.size)) :
    Lst w' B l R most cnt (l1 ++ ⟨w.heap.size, p, r, n, c, ls⟩ :: l2) ∧ Stay w w' [laA R l1, hdA R l2] := by
  have hu : laA R l1 ∈ R :: adr (l1 ++ l2) := by
    rw [adr_append]
    have := laA_mem R l1
    simp only [List.mem_cons, List.mem_append] at this ⊢
    exact this.imp id .inl
  have hv : hdA R l2 ∈ R :: adr (l1 ++ l2) := by
    rw [adr_append]
    have := hdA_mem R l2
    simp only [List.mem_cons, List.mem_append] at this ⊢
    exact this.imp id .inr
  obtain ⟨X, Y, hX, hY, hn1, hn2, hn3, hn4⟩ := gap_split R l1 l2 h.numA
  have hadj := h.adj
  rw [ring_row, hX, hY] at hadj
  have hlt := fun k hk => (h.adlt k hk).1
  have hnbu := h.nb hu
  have hnbv := h.nb hv
  generalize laA R l1 = u at *
  generalize hdA R l2 = v at *
  have hub := hlt u hu
  have hvb := hlt v hv
  have hX' : X ++ [u] ++ v :: Y = X ++ u :: (v :: Y) := by simp
  rw [hX', Adj_append] at hadj
  obtain ⟨hadj1, hadj2⟩ := hadj
  have hadj2' : Adj w (v :: Y) := hadj2.2
  generalize hG : w.heap.size = G at *
  obtain ⟨w1, hw1⟩ : ∃ w1, w.alloc (.cells #[ptr p, ptr u, ptr v] 74) = w1 := ⟨_, rfl⟩
  rw [hw1] at hw
  have hb1 : Below G w w1 := by rw [← hw1, ← hG]; exact alloc_below w _
  have hnew1 : w1.heap[G]? = some (.cells #[ptr p, ptr u, ptr v] 74 (0, 0)) := by rw [← hw1, ← hG]; exact heap_alloc_new w _
  have hold1 : ∀ k, k < G → w1.heap[k]? = w.heap[k]? := hb1.block
  have hs1 : Stay w w1 [u, v] := ⟨hb1.os, hb1.tape, hb1.output, hb1.size, fun k hk _ => hold1 k (hG ▸ hk)⟩
  have hs : Stay w w' [u, v] := by
    subst hw
    refine (hs1.trans (Stay.set (q := v) (o := 1) (v := ptr G)) (by simp)).trans (Stay.set (q := u) (o := 2) (v := ptr G)) (by simp)
  have hcell : ∀ k o, ¬ (k = v ∧ o = 1) → ¬ (k = u ∧ o = 2) → w'.cell? ⟨k, o, none⟩ = w1.cell? ⟨k, o, none⟩ := by
    intro k o h1 h2
    subst hw
    rw [cell_ne h2, cell_ne h1]
  have hcold : ∀ k o, k < G → w1.cell? ⟨k, o, none⟩ = w.cell? ⟨k, o, none⟩ := fun k o hk => World.cell?_of_block (hold1 k hk)
  have hcv : w'.cell? ⟨v, 1, none⟩ = some (ptr G) := by
    subst hw
    rw [cell_ne (fun e => absurd e.2 (by decide))]
    obtain ⟨P, hP⟩ := hnbv
    obtain ⟨x, hx⟩ := (nb_cell hP).1
    exact cell_eq (x := x) (by rw [hcold v 1 hvb]; exact hx)
  have hcu : w'.cell? ⟨u, 2, none⟩ = some (ptr G) := by
    subst hw
    obtain ⟨P, hP⟩ := hnbu
    obtain ⟨x, hx⟩ := (nb_cell hP).2
    refine cell_eq (x := x) ?_
    rw [cell_ne (fun e => absurd e.2 (by decide)), hcold u 2 hub]; exact hx
  have hne : G ≠ u ∧ G ≠ v := ⟨by omega, by omega⟩
  have hcG : w'.cell? ⟨G, 1, none⟩ = some (ptr u) ∧ w'.cell? ⟨G, 2, none⟩ = some (ptr v) := by
    rw [hcell G 1 (fun e => hne.2 e.1) (fun e => hne.1 e.1), hcell G 2 (fun e => hne.2 e.1) (fun e => hne.1 e.1)]
    simp [World.cell?, hnew1]
  have hmX : ∀ k ∈ X ++ [u], k < G := by
    intro k hk
    rw [← hX] at hk
    refine hlt k ?_
    rw [adr_append]
    simp only [List.mem_cons, List.mem_append] at hk ⊢
    exact hk.imp id .inl
  have hmY : ∀ k ∈ v :: Y, k < G := by
    intro k hk
    rw [← hY] at hk
    refine hlt k ?_
    rw [adr_append]
    simp only [List.mem_cons, List.mem_append, List.not_mem_nil, or_false] at hk ⊢
    rcases hk with hk | hk
    · exact .inr (.inr hk)
    · exact .inl hk
  have htail : (X ++ [u]).tail = adr l1 := by rw [← hX]; rfl
  have hdl : (v :: Y).dropLast = adr l2 := by rw [← hY, List.dropLast_concat]
  have hAdj : Adj w' (R :: adr (l1 ++ ⟨G, p, r, n, c, ls⟩ :: l2) ++ [R]) := by
    have e : R :: adr (l1 ++ ⟨G, p, r, n, c, ls⟩ :: l2) ++ [R] = X ++ u :: G :: v :: Y := by
      rw [adr_append, adr_cons]
      have : R :: (adr l1 ++ G :: adr l2) ++ [R] = (R :: adr l1) ++ G :: (adr l2 ++ [R]) := by simp
      rw [this, hX, hY]; simp
    rw [e, Adj_append]
    refine ⟨Adj_congr (w := w) _ ?_ ?_ hadj1, ⟨hcu, hcG.1⟩, ⟨hcG.2, hcv⟩, Adj_congr (w := w) _ ?_ ?_ hadj2'⟩
    · intro k hk
      rw [List.dropLast_concat] at hk
      rw [hcell k 2 (fun e => absurd e.2 (by decide)) (fun e => hn1 (e.1 ▸ hk)), hcold k 2 (hmX k (by simp [hk]))]
    · intro k hk
      have hk2 : k < G := hmX k (List.mem_of_mem_tail hk)
      rw [htail] at hk
      rw [hcell k 1 (fun e => hn4 (e.1 ▸ hk)) (fun e => absurd e.2 (by decide)), hcold k 1 hk2]
    · intro k hk
      have hk2 : k < G := hmY k ((List.dropLast_sublist _).subset hk)
      rw [hdl] at hk
      rw [hcell k 2 (fun e => absurd e.2 (by decide)) (fun e => hn2 (e.1 ▸ hk)), hcold k 2 hk2]
    · intro k hk
      have hk2 : k < G := hmY k (List.mem_cons_of_mem _ hk)
      rw [hcell k 1 (fun e => hn3 (e.1 ▸ hk)) (fun e => absurd e.2 (by decide)), hcold k 1 hk2]
  refine ⟨h.rewire hs ?_ ?_ hAdj ?_ ?_, hs⟩
  · intro k hk
    simp only [List.mem_cons, List.not_mem_nil, or_false] at hk
    rcases hk with rfl | rfl
    · exact hu
    · exact hv
  · intro k hk P hP
    have hP1 : ∃ x y, w1.heap[k]? = some (.cells #[P, x, y] 74 (0, 0)) := by rw [hold1 k (hlt k hk)]; exact hP
    subst hw
    exact nb_set (nb_set hP1 (.inl rfl)) (.inr rfl)
  · intro d hd
    rcases mem_or hd with rfl | hd
    · refine .inr ⟨⟨ptr u, ptr v, ?_⟩, ?_, hf, hn, ?_⟩
      · show w'.heap[G]? = _
        subst hw
        rw [heap_other _ hne.1, heap_other _ hne.2]
        exact hnew1
      · refine hP.stay hs ?_ ?_
        · intro hm
          refine hdis p (by simp) ?_
          simp only [List.mem_cons, List.not_mem_nil, or_false] at hm
          rcases hm with rfl | rfl
          · exact List.mem_cons_of_mem _ (by
              rcases List.mem_cons.1 hu with e | hu
              · rw [e]; simp
              · exact List.mem_cons_of_mem _ (adr_fpN hu))
          · exact List.mem_cons_of_mem _ (by
              rcases List.mem_cons.1 hv with e | hv
              · rw [e]; simp
              · exact List.mem_cons_of_mem _ (adr_fpN hv))
        · intro k hk hm
          refine hdis k (List.mem_cons_of_mem _ hk) ?_
          simp only [List.mem_cons, List.not_mem_nil, or_false] at hm
          rcases hm with rfl | rfl
          · exact List.mem_cons_of_mem _ (by
              rcases List.mem_cons.1 hu with e | hu
              · rw [e]; simp
              · exact List.mem_cons_of_mem _ (adr_fpN hu))
          · exact List.mem_cons_of_mem _ (by
              rcases List.mem_cons.1 hv with e | hv
              · rw [e]; simp
              · exact List.mem_cons_of_mem _ (adr_fpN hv))
      · show B ≤ G
        have := h.lowl
        have := h.lt
        omega
    · exact .inl hd
  · refine (fp_perm l R l1 l2 _).nodup_iff.2 (List.nodup_append.2 ⟨?_, h.num, ?_⟩)
    · show (G :: p :: (r.map (·.block)).toList).Nodup
      refine List.nodup_cons.2 ⟨fun hm => ?_, hnd⟩
      rcases List.mem_cons.1 hm with e | hm
      · have := hP.lt; omega
      · have := (hP.own.lt G (by rw [Option.mem_toList] at hm; rw [← hm]; cases r <;> rfl)).2
        omega
    · intro k hk j hj e
      subst e
      rcases List.mem_cons.1 hk with rfl | hk
      · have := (h.fplt _ hj).2
        have := hG
        omega
      · exact hdis k hk hj
/-- What a ring is behind unlink. -/
theorem Lst.del {w : World} {B l R most cnt : Nat} {l1 l2 : List Nd} {d : Nd} (h : Lst w B l R most cnt (l1 ++ d :: l2)) {w' : World}
    (hw : w' = (w.setCell ⟨laA R l1, 2, none⟩ (ptr (hdA R l2))).setCell ⟨hdA R l2, 1, none⟩ (ptr (laA R l1))) :
    Lst w' B l R most cnt (l1 ++ l2) ∧ Goes w w' l R (l1 ++ d :: l2) (l1 ++ l2) ∧ w'.cell? ⟨d.a, 1, none⟩ = some (ptr (laA R l1)) ∧ w'.cell? ⟨d.a, 2, none⟩ = some (ptr (hdA R l2)) := by
  have hsplit : l1 ++ d :: l2 = (l1 ++ [d]) ++ l2 := by simp
  have hg1 := (h.gap (l1 := l1) (l2 := d :: l2)).2
  have hg2 := (Lst.gap (l1 := l1 ++ [d]) (l2 := l2) (hsplit ▸ h)).1
  rw [laA_snoc] at hg2
  have hu : laA R l1 ∈ R :: adr (l1 ++ l2) := by
    rw [adr_append]
    have := laA_mem R l1
    simp only [List.mem_cons, List.mem_append] at this ⊢
    exact this.imp id .inl
  have hv : hdA R l2 ∈ R :: adr (l1 ++ l2) := by
    rw [adr_append]
    have := hdA_mem R l2
    simp only [List.mem_cons, List.mem_append] at this ⊢
    exact this.imp id .inr
  have hsub : ∀ k ∈ R :: adr (l1 ++ l2), k ∈ R :: adr (l1 ++ d :: l2) := by
    intro k hk
    rw [adr_append] at hk ⊢
    rw [adr_cons]
    simp only [List.mem_cons, List.mem_append] at hk ⊢
    rcases hk with hk | hk | hk
    · exact .inl hk
    · exact .inr (.inl hk)
    · exact .inr (.inr (.inr hk))
  have hA := h.numA
  have hperm : (R :: adr (l1 ++ d :: l2)).Perm (d.a :: R :: adr (l1 ++ l2)) := by
    rw [adr_append, adr_cons, adr_append]
    exact (List.perm_middle.cons R).trans (List.Perm.swap _ _ _)
  have hA2 := hperm.nodup_iff.1 hA
  rw [List.nodup_cons] at hA2
  obtain ⟨X, Y, hX, hY, hn1, hn2, hn3, hn4⟩ := gap_split R l1 l2 hA2.2
  have hadj := h.adj
  have hrow : R :: adr (l1 ++ d :: l2) ++ [R] = (X ++ [laA R l1]) ++ d.a :: hdA R l2 :: Y := by
    rw [adr_append, adr_cons, ← hX, ← hY]; simp
  rw [hrow] at hadj
  have hnbu := h.nb (hsub _ hu)
  have hnbv := h.nb (hsub _ hv)
  have hdu : d.a ≠ laA R l1 := fun e => hA2.1 (e ▸ hu)
  have hdv : d.a ≠ hdA R l2 := fun e => hA2.1 (e ▸ hv)
  generalize laA R l1 = u at *
  generalize hdA R l2 = v at *
  have hX' : X ++ [u] ++ d.a :: v :: Y = X ++ u :: (d.a :: v :: Y) := by simp
  rw [hX', Adj_append] at hadj
  obtain ⟨hadj1, hadj2⟩ := hadj
  have hadj2' : Adj w (v :: Y) := hadj2.2.2
  have hs : Stay w w' [u, v] := by
    subst hw
    exact (((Stay.set (q := u) (o := 2) (v := ptr v)).mono (by simp)).trans (Stay.set (q := v) (o := 1) (v := ptr u)) (by simp) : Stay w _ [u, v])
  have hcell : ∀ k o, ¬ (k = u ∧ o = 2) → ¬ (k = v ∧ o = 1) → w'.cell? ⟨k, o, none⟩ = w.cell? ⟨k, o, none⟩ := by
    intro k o h1 h2
    subst hw
    rw [cell_ne h2, cell_ne h1]
  have hcu : w'.cell? ⟨u, 2, none⟩ = some (ptr v) := by
    subst hw
    rw [cell_ne (fun e => absurd e.2 (by decide))]
    obtain ⟨P, hP⟩ := hnbu
    obtain ⟨x, hx⟩ := (nb_cell hP).2
    exact cell_eq (x := x) hx
  have hcv : w'.cell? ⟨v, 1, none⟩ = some (ptr u) := by
    subst hw
    obtain ⟨P, hP⟩ := hnbv
    obtain ⟨x, hx⟩ := (nb_cell hP).1
    refine cell_eq (x := x) ?_
    rw [cell_ne (fun e => absurd e.2 (by decide))]; exact hx
  have htail : (X ++ [u]).tail = adr l1 := by rw [← hX]; rfl
  have hdl : (v :: Y).dropLast = adr l2 := by rw [← hY, List.dropLast_concat]
  have hAdj : Adj w' (R :: adr (l1 ++ l2) ++ [R]) := by
    rw [ring_row, hX, hY]
    have e : X ++ [u] ++ v :: Y = X ++ u :: v :: Y := by simp
    rw [e]
    refine Adj_meet hadj1 hadj2' hcu hcv ?_ ?_ ?_ ?_
    · exact fun k hk => hcell k 2 (fun e => hn1 (e.1 ▸ hk)) (fun e => absurd e.2 (by decide))
    · intro k hk
      rw [htail] at hk
      exact hcell k 1 (fun e => absurd e.2 (by decide)) (fun e => hn4 (e.1 ▸ hk))
    · intro k hk
      rw [hdl] at hk
      exact hcell k 2 (fun e => hn2 (e.1 ▸ hk)) (fun e => absurd e.2 (by decide))
    · exact fun k hk => hcell k 1 (fun e => absurd e.2 (by decide)) (fun e => hn3 (e.1 ▸ hk))
  have hMem : ∀ k ∈ [u, v], k ∈ R :: adr (l1 ++ d :: l2) := by
    intro k hk
    simp only [List.mem_cons, List.not_mem_nil, or_false] at hk
    rcases hk with rfl | rfl
    · exact hsub _ hu
    · exact hsub _ hv
  refine ⟨h.rewire hs hMem ?_ hAdj (fun e he => .inl (mem_mid he d)) h.apart.2.1, ⟨hs.mono ?_, ?_⟩, ?_, ?_⟩
  · intro k hk P hP
    subst hw
    exact nb_set (nb_set hP (.inr rfl)) (.inl rfl)
  · intro k hk
    rcases List.mem_cons.1 (hMem k hk) with e | h1
    · rw [e]; simp
    · exact List.mem_cons_of_mem _ (List.mem_cons_of_mem _ (adr_fpN h1))
  · intro k hk
    refine .inl ?_
    rw [fpN_append] at hk ⊢
    rw [fpN_cons]
    simp only [List.mem_append] at hk ⊢
    exact hk.imp id .inr
  · rw [hcell d.a 1 (fun e => hdu e.1) (fun e => hdv e.1)]; exact hg1
  · rw [hcell d.a 2 (fun e => hdu e.1) (fun e => hdv e.1)]; exact hg2
set_option maxRecDepth 100000 in
set_option maxHeartbeats 4000000 in
theorem link_any (B l R most cnt : Nat) (l1 l2 : List Nd) (p : Nat) (r : Option Addr) (n c : Nat) (ls : List ByteArray) (w : World) (h : Lst w B l R most cnt (l1 ++ l2)) (hP : Pk w B p r n c ls) (hf : Fit ls) (hn : n ≤ 65536) (hnd : (p :: (r.map (·.block)).toList).Nodup) (hdis : ∀ k ∈ p :: (r.map (·.block)).toList, k ∉ l :: R :: fpN (l1 ++ l2)) :
    Calls Tryz.prog 61 #[ptr (laA R l1), ptr p] w fun e w' => e = .returned (.tuple #[]) ∧ ∃ f, w.heap.size ≤ f ∧ Lst w' B l R most cnt (l1 ++ ⟨f, p, r, n, c, ls⟩ :: l2) ∧ Stay w w' (l :: R :: fpN (l1 ++ l2)) := by
  have hE := h.ins hP hf hn hnd hdis rfl
  have HE : Hid (Lst (((w.alloc (.cells #[ptr p, ptr (laA R l1), ptr (hdA R l2)] 74)).setCell ⟨hdA R l2, 1, none⟩ (ptr w.heap.size)).setCell ⟨laA R l1, 2, none⟩ (ptr w.heap.size)) B l R most cnt (l1 ++ ⟨w.heap.size, p, r, n, c, ls⟩ :: l2) ∧ Stay w (((w.alloc (.cells #[ptr p, ptr (laA R l1), ptr (hdA R l2)] 74)).setCell ⟨hdA R l2, 1, none⟩ (ptr w.heap.size)).setCell ⟨laA R l1, 2, none⟩ (ptr w.heap.size)) (l :: R :: fpN (l1 ++ l2))) := ⟨hE.1, hE.2.mono (by
    intro k hk
    simp only [List.mem_cons, List.not_mem_nil, or_false] at hk
    have h1 := laA_mem R l1
    have h2 := hdA_mem R l2
    rw [fpN_append]
    simp only [List.mem_cons, List.mem_append] at h1 h2 ⊢
    rcases hk with rfl | rfl
    · exact .inr (h1.imp id (fun h => .inl (adr_fpN h)))
    · exact .inr (h2.imp id (fun h => .inr (adr_fpN h))))⟩
  have hu : laA R l1 ∈ R :: adr (l1 ++ l2) := by
    rw [adr_append]
    have := laA_mem R l1
    simp only [List.mem_cons, List.mem_append] at this ⊢
    exact this.imp id .inl
  have hv : hdA R l2 ∈ R :: adr (l1 ++ l2) := by
    rw [adr_append]
    have := hdA_mem R l2
    simp only [List.mem_cons, List.mem_append] at this ⊢
    exact this.imp id .inr
  have hc := h.gap.1
  have hc1 : (w.alloc (.cells #[ptr p, ptr (laA R l1), ptr (hdA R l2)] 74)).cell? ⟨laA R l1, 2, none⟩ = some (ptr (hdA R l2)) := by
    rw [(alloc_below w _).cell (p := ⟨laA R l1, 2, none⟩) (h.adlt _ hu).1]; exact hc
  have hk := h.keep (alloc_below w (.cells #[ptr p, ptr (laA R l1), ptr (hdA R l2)] 74))
  have hf1 := hk.nfrozen hv 1
  obtain ⟨P1, hP1⟩ := hk.nb hv
  obtain ⟨x1, hx1⟩ := (nb_cell hP1).1
  have hf2 := hk.nfrozen hu 2
  have hx2 := hc1
  generalize laA R l1 = u at *
  generalize hdA R l2 = v at *
  have hf3 : ((w.alloc (.cells #[ptr p, ptr u, ptr v] 74)).setCell ⟨v, 1, none⟩ (ptr w.heap.size)).frozen? ⟨u, 2, none⟩ = false := by
    rw [World.frozen?_setCell]; exact hf2
  have hx3 : ((w.alloc (.cells #[ptr p, ptr u, ptr v] 74)).setCell ⟨v, 1, none⟩ (ptr w.heap.size)).cell? ⟨u, 2, none⟩ = some (ptr v) := by
    rw [cell_ne (fun e => absurd e.2 (by decide))]; exact hx2
  clear h hP hf hnd hdis hE hk hu hv hP1
  go_enter Tryz.func61, Tryz.ntmps61
  go_wp2
  go_end0
  exact ⟨rfl, w.heap.size, Nat.le_refl _, HE.out⟩
theorem Tryz.infoN : (Tryz.prog.info? 74).map (fun i => i.size) = some 3 := by kernel_rfl
theorem infoN_ex : ∃ j, Tryz.prog.info? 74 = some j ∧ j.size ≠ 0 := by
  have h := Tryz.infoN
  cases hj : Tryz.prog.info? 74 with
  | none => rw [hj] at h; cases h
  | some j =>
    rw [hj] at h
    refine ⟨j, rfl, ?_⟩
    have : j.size = 3 := Option.some.inj h
    omega
theorem neq_same (w : World) (k : Nat) : (binOp .neq 72 (ptr k) (ptr k)).run Tryz.prog w = .ok (.bool false) w := by
  obtain ⟨j, hj, -⟩ := infoN_ex
  exact Lib.run_neq_ptr_same w ⟨k, 0, none⟩ Tryz.underlying72 hj
theorem eql_other {w : World} {k q : Nat} {ca cb : Array Value} {ta tb : TypeId} (h : k ≠ q) (ha : w.heap[k]? = some (.cells ca ta (0, 0))) (hb : w.heap[q]? = some (.cells cb tb (0, 0))) : (binOp .eql 72 (ptr k) (ptr q)).run Tryz.prog w = .ok (.bool false) w := by
  obtain ⟨j, hj, hs⟩ := infoN_ex
  exact run_eql_ptr_other w Tryz.underlying72 hj hs (by intro e; injection e with e1; exact h e1) ha hb
theorem neq_other {w : World} {k q : Nat} {ca cb : Array Value} {ta tb : TypeId} (h : k ≠ q) (ha : w.heap[k]? = some (.cells ca ta (0, 0))) (hb : w.heap[q]? = some (.cells cb tb (0, 0))) : (binOp .neq 72 (ptr k) (ptr q)).run Tryz.prog w = .ok (.bool true) w := by
  obtain ⟨j, hj, hs⟩ := infoN_ex
  have hne : (⟨k, 0, none⟩ : Addr) ≠ ⟨q, 0, none⟩ := by intro e; injection e with e1; exact h e1
  have hh : ∀ d : Nat, (Op.equalIn (d + 1) 72 (ptr k) (ptr q)).run Tryz.prog w = .ok false w := fun d => by
    simp [Op.equalIn, run_underlying Tryz.underlying72, sizeOf, typeInfo, hj, hs, run_sameAddr_other w hne ha hb]
  simp only [binOp]
  simp [Op.equal, Op.maxDepth, hh 9999]
/-- Two unlike nodes of a ring are told apart. -/
theorem Lst.neq {w : World} {B l R most cnt : Nat} {ns : List Nd} (h : Lst w B l R most cnt ns) {k q : Nat} (hk : k ∈ R :: adr ns) (hq : q ∈ R :: adr ns) (hne : k ≠ q) : (binOp .eql 72 (ptr k) (ptr q)).run Tryz.prog w = .ok (.bool false) w ∧ (binOp .neq 72 (ptr k) (ptr q)).run Tryz.prog w = .ok (.bool true) w := by
  obtain ⟨P, x, y, e1⟩ := h.nb hk
  obtain ⟨P', x', y', e2⟩ := h.nb hq
  exact ⟨eql_other hne e1 e2, neq_other hne e1 e2⟩
theorem Lst.neqR {w : World} {B l R most cnt : Nat} {ns : List Nd} (h : Lst w B l R most cnt ns) {d : Nd} (hd : d ∈ ns) : (binOp .eql 72 (ptr d.a) (ptr R)).run Tryz.prog w = .ok (.bool false) w ∧ (binOp .neq 72 (ptr d.a) (ptr R)).run Tryz.prog w = .ok (.bool true) w :=
  h.neq (List.mem_cons_of_mem _ (List.mem_map_of_mem hd)) (by simp) (h.ne_ring hd)
theorem Size_any (s : ByteArray) (w : World) (hs : s.size ≤ 4096) : Calls Tryz.prog 89 #[.string s] w fun e w' => Below w.heap.size w w' ∧ e = .returned (.int .i64 ((enc (lst s)).length : Nat)) := by
  have HE := fun w => Encode_any s w hs
  go_enter Tryz.func89, Tryz.ntmps89
  go_wp2_with fail
  refine (HE _).mono ?_
  rintro e w1 ⟨hb, a, m, c, rfl, hO⟩
  have HM : Hid ((enc (lst s)).length = m) := hO.len
  clear hO
  go_wp2
  go_ret
  exact ⟨hb, by rw [HM.out]; rfl⟩
set_option maxRecDepth 100000 in
theorem hasRoom_ring (B l R most cnt : Nat) (ns : List Nd) (s : ByteArray) (w : World) (h : Lst w B l R most cnt ns) :
    Calls Tryz.prog 58 #[ptr l, ptr R, .string s] w fun e w' => Below w.heap.size w w' ∧ e = .returned (.bool false) := by
  have hc1 := fun x : Ext w => (h.keep x.ok).cring
  have hex : Nonempty (Ext w) := ⟨⟨w, Below.refl _ _⟩⟩
  have hq := fun x : Ext w => neq_same x.wx R
  clear h
  go_enter Tryz.func58, Tryz.ntmps58
  go_wp2_with fail
  refine wp_region_ext (by kernel_rfl) (by kernel_rfl) ?_
  repeat (go_big_quiet_step (fail))
  refine wpQuiet_nil ?_
  intro wz hz
  obtain ⟨x, rfl⟩ := hz
  have HB : Hid (Below w.heap.size w x.wx) := x.ok
  go_wp2
  go_ret
  exact ⟨HB.out, rfl⟩
theorem enc_le (s : ByteArray) (h : s.size ≤ 4096) : 2 ≤ (enc (lst s)).length ∧ (enc (lst s)).length ≤ 5000 := by
  have h1 := (enc_len (lst s)).1
  have h2 := (enc_len (lst s)).2
  rw [len_lst] at h2
  omega
theorem Calls.ext_same {P : Program} {f : FuncId} {args : Array Value} {w : World} {x : Ext w} {v : Value}
    (h : Calls P f args x.wx fun e w' => e = .returned v ∧ w' = x.wx) : Calls P f args x.wx fun e w'' => e = .returned v ∧ ∃ y : Ext w, w'' = y.wx :=
  h.mono fun _ _ ⟨he, hm⟩ => ⟨he, x, hm⟩
set_option maxRecDepth 100000 in
set_option maxHeartbeats 4000000 in
theorem hasRoom_no (B l R most cnt : Nat) (ns : List Nd) (d : Nd) (s : ByteArray) (w : World) (h : Lst w B l R most cnt ns) (hd : d ∈ ns) (hm : ¬ d.ls.length < most) :
    Calls Tryz.prog 58 #[ptr l, ptr d.a, .string s] w fun e w' => Below w.heap.size w w' ∧ e = .returned (.bool false) := by
  have HLen := fun x : Ext w => Len_any B d.p d.r d.n d.c d.ls x.wx ((h.nod d hd).pk.keep x.ok)
  have hc1 := fun x : Ext w => (h.keep x.ok).cring
  have hcm1 := fun x : Ext w => (h.keep x.ok).cmost
  have hcp1 := fun x : Ext w => (h.keep x.ok).cpk hd
  have hq := fun x : Ext w => ((h.keep x.ok).neqR hd).2
  have hex : Nonempty (Ext w) := ⟨⟨w, Below.refl _ _⟩⟩
  obtain ⟨k, hk⟩ : ∃ k, d.ls.length = k := ⟨_, rfl⟩
  rw [hk] at hm
  simp only [hk] at HLen
  have hm1 : decide ((k : Int) < (most : Int)) = false := decide_eq_false (by omega)
  clear h hk hd
  go_enter Tryz.func58, Tryz.ntmps58
  go_wp2_with fail
  refine wp_region_ext (by kernel_rfl) (by kernel_rfl) ?_
  repeat (go_big_quiet_step (first | (go_at_call 60; exact Calls.ext_same (HLen _))))
  refine wpQuiet_nil ?_
  intro wz hz
  obtain ⟨x, rfl⟩ := hz
  have HB : Hid (Below w.heap.size w x.wx) := x.ok
  go_wp2
  go_ret
  exact ⟨HB.out, rfl⟩
set_option maxRecDepth 100000 in
set_option maxHeartbeats 4000000 in
theorem hasRoom_yes (B l R most cnt : Nat) (ns : List Nd) (d : Nd) (s : ByteArray) (w : World) (h : Lst w B l R most cnt ns) (hd : d ∈ ns) (hm : d.ls.length < most) (hs : s.size ≤ 4096) :
    Calls Tryz.prog 58 #[ptr l, ptr d.a, .string s] w fun e w' => Below w.heap.size w w' ∧ e = .returned (.bool (decide (d.n + (enc (lst s)).length ≤ 65536))) := by
  have HLen := fun x : Ext w => Len_any B d.p d.r d.n d.c d.ls x.wx ((h.nod d hd).pk.keep x.ok)
  have HSz := fun x : Ext w => Size_pk B d.p d.r d.n d.c d.ls x.wx ((h.nod d hd).pk.keep x.ok)
  have HEn := fun x : Ext w => Size_any s x.wx hs
  have hc1 := fun x : Ext w => (h.keep x.ok).cring
  have hcm1 := fun x : Ext w => (h.keep x.ok).cmost
  have hcp1 := fun x : Ext w => (h.keep x.ok).cpk hd
  have hq := fun x : Ext w => ((h.keep x.ok).neqR hd).2
  have hex : Nonempty (Ext w) := ⟨⟨w, Below.refl _ _⟩⟩
  have hen := (enc_le s hs).2
  have hn := (h.nod d hd).siz
  obtain ⟨k, hk⟩ : ∃ k, d.ls.length = k := ⟨_, rfl⟩
  obtain ⟨z, hz⟩ : ∃ z, (enc (lst s)).length = z := ⟨_, rfl⟩
  obtain ⟨n, hnn⟩ : ∃ n, d.n = n := ⟨_, rfl⟩
  rw [hk] at hm
  rw [hz] at hen ⊢
  rw [hnn] at hn ⊢
  simp only [hk] at HLen
  simp only [hnn] at HSz
  simp only [hz] at HEn
  have hm1 : decide ((k : Int) < (most : Int)) = true := decide_eq_true (by omega)
  have hm2 : (k : Int) < (most : Int) := by omega
  have hdc : decide ((n : Int) + (z : Int) ≤ 65536) = decide (n + z ≤ 65536) := by
    rw [Bool.eq_iff_iff, decide_eq_true_eq, decide_eq_true_eq]; omega
  clear h hk hd hz hnn hs
  go_enter Tryz.func58, Tryz.ntmps58
  go_wp2_with fail
  refine wp_region_ext (by kernel_rfl) (by kernel_rfl) ?_
  repeat (go_big_quiet_step (first | (go_at_call 60; exact Calls.ext_same (HLen _)) | (go_at_call 88; exact Calls.ext_same (HSz _)) | (go_at_call 89; exact Calls.ext_of (HEn _))))
  refine wpQuiet_nil ?_
  intro wz hz
  obtain ⟨x, rfl⟩ := hz
  have HB : Hid (Below w.heap.size w x.wx) := x.ok
  go_wp2
  go_ret
  exact ⟨HB.out, by rw [← hdc]; rfl⟩
/-- No node is empty, none has too many. -/
def Ok (most : Nat) (ns : List Nd) : Prop := ∀ d ∈ ns, 0 < d.ls.length ∧ d.ls.length ≤ most
theorem Ok.mid {most : Nat} {l1 l2 : List Nd} {d d' : Nd} (h : Ok most (l1 ++ d :: l2)) (h' : 0 < d'.ls.length ∧ d'.ls.length ≤ most) : Ok most (l1 ++ d' :: l2) := by
  intro e he
  rcases mem_or he with rfl | he
  · exact h'
  · exact h e (mem_mid he d)
theorem Ok.less {most : Nat} {l1 l2 : List Nd} {d : Nd} (h : Ok most (l1 ++ d :: l2)) : Ok most (l1 ++ l2) := fun e he => h e (mem_mid he d)
theorem Ok.more {most : Nat} {l1 l2 : List Nd} {d : Nd} (h : Ok most (l1 ++ l2)) (h' : 0 < d.ls.length ∧ d.ls.length ≤ most) : Ok most (l1 ++ d :: l2) := by
  intro e he
  rcases mem_or he with rfl | he
  · exact h'
  · exact h e he
theorem fit_append {a b : List ByteArray} (ha : Fit a) (hb : Fit b) : Fit (a ++ b) := by
  intro s hs
  rcases List.mem_append.1 hs with h | h
  · exact ha s h
  · exact hb s h
theorem fit_take {a : List ByteArray} (ha : Fit a) (i : Nat) : Fit (a.take i) := fun s hs => ha s (List.mem_of_mem_take hs)
theorem fit_drop {a : List ByteArray} (ha : Fit a) (i : Nat) : Fit (a.drop i) := fun s hs => ha s (List.mem_of_mem_drop hs)
theorem pack_one (s : ByteArray) : (pack [s]).length = (enc (lst s)).length := by
  rw [pack, List.length_append]; rfl
/-- What a call does that turns one node's pack. -/
def Node1 (w : World) (B l R most cnt : Nat) (l1 l2 : List Nd) (d : Nd) (ls : List ByteArray) (w' : World) : Prop :=
  ∃ d', d'.a = d.a ∧ d'.p = d.p ∧ d'.ls = ls ∧ d'.n = (pack ls).length ∧ Lst w' B l R most cnt (l1 ++ d' :: l2) ∧ Goes w w' l R (l1 ++ d :: l2) (l1 ++ d' :: l2)
theorem Lst.node1 {w w' : World} {B l R most cnt : Nat} {l1 l2 : List Nd} {d : Nd} (h : Lst w B l R most cnt (l1 ++ d :: l2)) {ls : List ByteArray} (hm : Moves w w' d.p d.r) (hE : ∃ a' n' c', Pk w' B d.p a' n' c' ls ∧ Went w d.r a') (hf : Fit ls) (hn : (pack ls).length ≤ 65536) : Node1 w B l R most cnt l1 l2 d ls w' := by
  obtain ⟨a', n', c', hp, hw⟩ := hE
  have hl := hp.len
  obtain ⟨h1, h2⟩ := h.turn hm hp hw hf (by omega)
  exact ⟨⟨d.a, d.p, a', n', c', ls⟩, rfl, rfl, rfl, hl.symm, h1, h2⟩
theorem Insert_nd (B l R most cnt : Nat) (l1 l2 : List Nd) (d : Nd) (i : Nat) (a2 : Option Addr) (m c2 : Nat) (ts : List ByteArray) (w : World) (h : Lst w B l R most cnt (l1 ++ d :: l2)) (hi : i ≤ d.ls.length) (hR : RdS w a2 m ts) (hl : Fit ts) (hm : m ≤ 100000) (hx : d.n + (pack ts).length ≤ 65536) :
    Calls Tryz.prog 59 #[ptr d.p, .int .i64 i, .slice a2 m c2] w fun e w' => e = .returned (.int .i64 0) ∧ Node1 w B l R most cnt l1 l2 d (d.ls.take i ++ (ts ++ d.ls.drop i)) w' := by
  have hd := h.nod d (by simp)
  refine (Insert_ok B d.p d.r d.n d.c d.ls i a2 m c2 ts w hd.pk hd.fit hd.siz hi hR hl hm hx).mono ?_
  rintro e w' ⟨rfl, h1, h2⟩
  refine ⟨rfl, h.node1 h1 h2 (fit_append (fit_take hd.fit i) (fit_append hl (fit_drop hd.fit i))) ?_⟩
  have := rep_len d.ls ts i 0
  rw [Nat.add_zero] at this
  rw [this, hd.pk.len]
  omega
/-- The place at a gap takes a text, or not. -/
theorem hasRoom_at (B l R most cnt : Nat) (ns : List Nd) (k : Nat) (s : ByteArray) (w : World) (h : Lst w B l R most cnt ns) (hk : k ∈ R :: adr ns) (hs : s.size ≤ 4096) :
    (∀ w1, Below w.heap.size w w1 → Calls Tryz.prog 58 #[ptr l, ptr k, .string s] w1 fun e w' => Below w1.heap.size w1 w' ∧ e = .returned (.bool false)) ∨
    (∃ d ∈ ns, d.a = k ∧ d.ls.length < most ∧ d.n + (enc (lst s)).length ≤ 65536 ∧ ∀ w1, Below w.heap.size w w1 → Calls Tryz.prog 58 #[ptr l, ptr k, .string s] w1 fun e w' => Below w1.heap.size w1 w' ∧ e = .returned (.bool true)) := by
  rcases List.mem_cons.1 hk with rfl | hk
  · exact .inl fun w1 hb => hasRoom_ring B l k most cnt ns s w1 (h.keep hb)
  · obtain ⟨d, hd, rfl⟩ := List.mem_map.1 hk
    by_cases hm : d.ls.length < most
    · by_cases hn : d.n + (enc (lst s)).length ≤ 65536
      · refine .inr ⟨d, hd, rfl, hm, hn, fun w1 hb => ?_⟩
        have := hasRoom_yes B l R most cnt ns d s w1 (h.keep hb) hd hm hs
        rw [decide_eq_true hn] at this
        exact this
      · refine .inl fun w1 hb => ?_
        have := hasRoom_yes B l R most cnt ns d s w1 (h.keep hb) hd hm hs
        rw [decide_eq_false hn] at this
        exact this
    · exact .inl fun w1 hb => hasRoom_no B l R most cnt ns d s w1 (h.keep hb) hd hm
/-- What putBehind makes at a gap: the nodes ahead and behind keep their places. -/
def PutAt (w : World) (B l R most cnt : Nat) (l1 l2 : List Nd) (s : ByteArray) (w' : World) : Prop :=
  ∃ M1 mid M2, Lst w' B l R most (cnt + 1) (M1 ++ (mid ++ M2)) ∧ Goes w w' l R (l1 ++ l2) (M1 ++ (mid ++ M2)) ∧ Ok most (M1 ++ (mid ++ M2)) ∧ adr M1 = adr l1 ∧ adr M2 = adr l2 ∧ txN M1 ++ (txN mid ++ txN M2) = txN l1 ++ (s :: txN l2)
theorem nodup_inj : ∀ (ns : List Nd), (adr ns).Nodup → ∀ d ∈ ns, ∀ e ∈ ns, d.a = e.a → d = e
  | [], _, _, hd, _, _, _ => absurd hd (by simp)
  | x :: r, h, d, hd, e, he, hda => by
    rw [adr_cons, List.nodup_cons] at h
    rcases List.mem_cons.1 hd with e1 | hd2
    · rcases List.mem_cons.1 he with e2 | he2
      · rw [e1, e2]
      · have hx : e.a ∈ adr r := List.mem_map_of_mem he2
        rw [← hda, e1] at hx
        exact absurd hx h.1
    · rcases List.mem_cons.1 he with e2 | he2
      · have hx : d.a ∈ adr r := List.mem_map_of_mem hd2
        rw [hda, e2] at hx
        exact absurd hx h.1
      · exact nodup_inj r h.2 d hd2 e he2 hda
theorem Lst.same {w : World} {B l R most cnt : Nat} {ns : List Nd} (h : Lst w B l R most cnt ns) {d e : Nd} (hd : d ∈ ns) (he : e ∈ ns) (ha : d.a = e.a) : d = e :=
  nodup_inj ns (List.nodup_cons.1 h.numA).2 d hd e he ha
theorem txN_nil : txN [] = [] := rfl
theorem Lst.putFore {w w1 : World} {B l R most cnt : Nat} {k1 l2 : List Nd} {d : Nd} {s : ByteArray} (hok : Ok most (k1 ++ d :: l2)) (hm : d.ls.length < most) (h : Node1 w B l R most cnt k1 l2 d (d.ls ++ [s]) w1) : w1.cell? ⟨l, 1, none⟩ = some (.int .i64 (cnt : Nat)) ∧ w1.frozen? ⟨l, 1, none⟩ = false ∧ PutAt w B l R most cnt (k1 ++ [d]) l2 s (w1.setCell ⟨l, 1, none⟩ (.int .i64 ((cnt + 1 : Nat) : Nat))) := by
  obtain ⟨d', e1, e2, e3, -, h4, h5⟩ := h
  obtain ⟨h6, h7⟩ := h4.count (cnt + 1)
  have es : ∀ x : Nd, k1 ++ x :: l2 = (k1 ++ [x]) ++ ([] ++ l2) := fun x => by simp
  refine ⟨h4.ccnt, h4.frozen 1, k1 ++ [d'], [], l2, ?_, ?_, ?_, ?_, rfl, ?_⟩
  · rw [← es]; exact h6
  · rw [← es]
    have : k1 ++ [d] ++ l2 = k1 ++ d :: l2 := by simp
    rw [this]
    exact h5.trans h7
  · rw [← es]
    refine hok.mid ?_
    rw [e3, List.length_append]
    show 0 < _ + 1 ∧ _ + 1 ≤ _
    omega
  · rw [adr_append, adr_append]; simp [adr, e1]
  · rw [txN_append, txN_append, txN_cons, txN_cons, e3]; simp [txN_nil]
theorem Lst.putBack {w w1 : World} {B l R most cnt : Nat} {l1 k2 : List Nd} {d : Nd} {s : ByteArray} (hok : Ok most (l1 ++ d :: k2)) (hm : d.ls.length < most) (h : Node1 w B l R most cnt l1 k2 d (s :: d.ls) w1) : w1.cell? ⟨l, 1, none⟩ = some (.int .i64 (cnt : Nat)) ∧ w1.frozen? ⟨l, 1, none⟩ = false ∧ PutAt w B l R most cnt l1 (d :: k2) s (w1.setCell ⟨l, 1, none⟩ (.int .i64 ((cnt + 1 : Nat) : Nat))) := by
  obtain ⟨d', e1, e2, e3, -, h4, h5⟩ := h
  obtain ⟨h6, h7⟩ := h4.count (cnt + 1)
  refine ⟨h4.ccnt, h4.frozen 1, l1, [], d' :: k2, h6, h5.trans h7, hok.mid ?_, rfl, ?_, ?_⟩
  · rw [e3, List.length_cons]; omega
  · rw [adr_cons, adr_cons, e1]
  · rw [txN_cons, txN_cons, e3]; simp [txN_nil]
set_option maxRecDepth 100000 in
set_option maxHeartbeats 4000000 in
theorem putBehind_fore (B l R most cnt : Nat) (k1 l2 : List Nd) (d : Nd) (s : ByteArray) (w : World) (h : Lst w B l R most cnt (k1 ++ d :: l2)) (hok : Ok most (k1 ++ d :: l2)) (hs : s.size ≤ 4096) (hcnt : cnt ≤ 1000000) (hm : d.ls.length < most) (hn : d.n + (enc (lst s)).length ≤ 65536)
    (HA : ∀ w1, Below w.heap.size w w1 → Calls Tryz.prog 58 #[ptr l, ptr d.a, .string s] w1 fun e w' => Below w1.heap.size w1 w' ∧ e = .returned (.bool true)) :
    Calls Tryz.prog 28 #[ptr l, ptr d.a, .string s] w fun e w' => e = .returned (.tuple #[]) ∧ PutAt w B l R most cnt (k1 ++ [d]) l2 s w' := by
  have HL : Hid (Lst w B l R most cnt (k1 ++ d :: l2)) := h
  have HOk : Hid (Ok most (k1 ++ d :: l2)) := hok
  have HS : Hid (s.size ≤ 4096) := hs
  have HX : Hid (d.n + (pack [s]).length ≤ 65536) := by show _ ≤ _; rw [pack_one]; exact hn
  have HM : Hid (d.ls.length < most) := hm
  have HA0 := HA w (Below.refl _ _)
  clear h hok hs hn hm HA
  go_enter Tryz.func28, Tryz.ntmps28
  go_wp2_with fail
  refine HA0.mono ?_
  rintro e w1 ⟨hb, rfl⟩
  have HB : Hid (Below w.heap.size w w1) := hb
  clear hb HA0
  have HLw : ∀ w', Below w1.heap.size w1 w' → Lst w' B l R most cnt (k1 ++ d :: l2) := fun w' hb => HL.out.keep (HB.out.trans (hb.mono HB.out.size))
  have hbd : Below w1.heap.size w1 w1.drew := below_drewN w1 1
  have hba : Below w1.heap.size w1 (w1.drew.alloc (.cells #[.string s] 9)) := hbd.trans (alloc_below w1.drew _)
  have HSd : Hid (w1.drew.cell? ⟨d.a, 0, none⟩ = some (ptr d.p)) := (HLw _ hbd).cpk (by simp)
  have HSa : Hid ((w1.drew.alloc (.cells #[.string s] 9)).cell? ⟨d.a, 0, none⟩ = some (ptr d.p)) := (HLw _ hba).cpk (by simp)
  have HLd := Len_any B d.p d.r d.n d.c d.ls w1.drew ((HLw _ hbd).nod d (by simp)).pk
  have HLa := Len_any B d.p d.r d.n d.c d.ls (w1.drew.alloc (.cells #[.string s] 9)) ((HLw _ hba).nod d (by simp)).pk
  have HI := Insert_nd B l R most cnt k1 l2 d d.ls.length (some ⟨w1.drew.heap.size, 0, none⟩) 1 1 [s] (w1.drew.alloc (.cells #[.string s] 9)) (HLw _ hba) (Nat.le_refl _) (RdS.box w1.drew s) (fit_one HS.out) (by decide) HX.out
  rw [List.take_length, List.drop_length, List.append_nil] at HI
  have HBa : Hid (Below w.heap.size w (w1.drew.alloc (.cells #[.string s] 9))) := HB.out.trans (hba.mono HB.out.size)
  generalize d.ls.length = k at HLd HLa HI
  clear HLw hbd hba
  go_upto_region 4 with fail
  go_region_held3 (fun w' => w'.cell? ⟨d.a, 0, none⟩ = some (ptr d.p)) (first | exact HSd.out | exact HSa.out | exact HSz.out) (first
    | (go_at_call 60; refine HLd.mono ?_; rintro e wx ⟨rfl, rfl⟩)
    | (go_at_call 60; refine HLa.mono ?_; rintro e wx ⟨rfl, rfl⟩)
    | (go_at_call 59; refine HI.mono ?_; rintro e wz ⟨rfl, hN⟩; have HN : Hid (Node1 (w1.drew.alloc (.cells #[.string s] 9)) B l R most cnt k1 l2 d (d.ls ++ [s]) wz) := hN; have HSz : Hid (wz.cell? ⟨d.a, 0, none⟩ = some (ptr d.p)) := (by obtain ⟨d', e1, e2, -, -, h4, -⟩ := hN; rw [← e1, ← e2]; exact h4.cpk (by simp)); clear hN))
  all_goals
    obtain ⟨hc, hf, hp⟩ := Lst.putFore (w := w) HOk.out HM.out (by obtain ⟨d', e1, e2, e3, e4, h4, h5⟩ := HN.out; exact ⟨d', e1, e2, e3, e4, h4, h5.first HBa.out⟩)
    have HP : Hid (PutAt w B l R most cnt (k1 ++ [d]) l2 s (wz.setCell ⟨l, 1, none⟩ (.int .i64 ((cnt + 1 : Nat) : Nat)))) := hp
    clear hp HN HSz
    go_wp2
    go_end0
    exact ⟨rfl, HP.out⟩
set_option maxRecDepth 100000 in
set_option maxHeartbeats 4000000 in
theorem putBehind_back (B l R most cnt : Nat) (l1 k2 : List Nd) (d : Nd) (s : ByteArray) (w : World) (h : Lst w B l R most cnt (l1 ++ d :: k2)) (hok : Ok most (l1 ++ d :: k2)) (hs : s.size ≤ 4096) (hcnt : cnt ≤ 1000000) (hm : d.ls.length < most) (hn : d.n + (enc (lst s)).length ≤ 65536)
    (HA : ∀ w1, Below w.heap.size w w1 → Calls Tryz.prog 58 #[ptr l, ptr (laA R l1), .string s] w1 fun e w' => Below w1.heap.size w1 w' ∧ e = .returned (.bool false))
    (HC : ∀ w1, Below w.heap.size w w1 → Calls Tryz.prog 58 #[ptr l, ptr d.a, .string s] w1 fun e w' => Below w1.heap.size w1 w' ∧ e = .returned (.bool true)) :
    Calls Tryz.prog 28 #[ptr l, ptr (laA R l1), .string s] w fun e w' => e = .returned (.tuple #[]) ∧ PutAt w B l R most cnt l1 (d :: k2) s w' := by
  have HL : Hid (Lst w B l R most cnt (l1 ++ d :: k2)) := h
  have HOk : Hid (Ok most (l1 ++ d :: k2)) := hok
  have HS : Hid (s.size ≤ 4096) := hs
  have HX : Hid (d.n + (pack [s]).length ≤ 65536) := by show _ ≤ _; rw [pack_one]; exact hn
  have HM : Hid (d.ls.length < most) := hm
  have HA0 := HA w (Below.refl _ _)
  have hgp : ∀ w', Below w.heap.size w w' → w'.cell? ⟨laA R l1, 2, none⟩ = some (ptr d.a) := fun w' hb => ((h.keep hb).gap (l1 := l1) (l2 := d :: k2)).1
  clear h hok hs hn hm HA
  generalize laA R l1 = u at *
  go_enter Tryz.func28, Tryz.ntmps28
  go_wp2_with fail
  refine HA0.mono ?_
  rintro e w1 ⟨hb, rfl⟩
  have HB : Hid (Below w.heap.size w w1) := hb
  have hg1 := hgp w1 hb
  have HC1 := HC w1 hb
  clear hb HA0 HC
  go_wp2_with fail
  refine HC1.mono ?_
  rintro e w2 ⟨hb, rfl⟩
  have HB2 := step_below HB hb
  have hg2 := hgp w2 HB2.out
  have hc2 := (HL.out.keep HB2.out).cpk (d := d) (by simp)
  have hba : Below w2.heap.size w2 (w2.alloc (.cells #[.string s] 9)) := alloc_below w2 _
  have HBa : Hid (Below w.heap.size w (w2.alloc (.cells #[.string s] 9))) := HB2.out.trans (hba.mono HB2.out.size)
  have HI := Insert_nd B l R most cnt l1 k2 d 0 (some ⟨w2.heap.size, 0, none⟩) 1 1 [s] (w2.alloc (.cells #[.string s] 9)) (HL.out.keep HBa.out) (Nat.zero_le _) (RdS.box w2 s) (fit_one HS.out) (by decide) HX.out
  rw [List.take_zero, List.drop_zero, List.nil_append] at HI
  clear hb HC1 hgp hba
  go_wp2_with fail
  refine HI.mono ?_
  rintro e w3 ⟨rfl, hN⟩
  obtain ⟨hc, hf, hp⟩ := Lst.putBack (w := w) HOk.out HM.out (by obtain ⟨d', e1, e2, e3, e4, h4, h5⟩ := hN; exact ⟨d', e1, e2, e3, e4, h4, h5.first HBa.out⟩)
  have HP : Hid (PutAt w B l R most cnt l1 (d :: k2) s (w3.setCell ⟨l, 1, none⟩ (.int .i64 ((cnt + 1 : Nat) : Nat)))) := hp
  clear hp hN
  go_wp2
  go_end0
  exact ⟨rfl, HP.out⟩
/-- A new pack lies in no list that was. -/
theorem Pk.blocks {w : World} {C p : Nat} {r : Option Addr} {n c : Nat} {ls : List ByteArray} (h : Pk w C p r n c ls) : (∀ k ∈ p :: (r.map (·.block)).toList, C ≤ k ∧ k < w.heap.size) ∧ (p :: (r.map (·.block)).toList).Nodup := by
  refine ⟨fun k hk => ?_, List.nodup_cons.2 ⟨fun hm => ?_, by cases r <;> simp⟩⟩
  · rcases List.mem_cons.1 hk with rfl | hk
    · exact ⟨h.low, h.lt⟩
    · rw [Option.mem_toList] at hk
      exact h.own.lt k (by rw [← hk]; cases r <;> rfl)
  · rw [Option.mem_toList] at hm
    exact h.own.ne_pk h.blk hm.symm
theorem Lst.fresh {w w' : World} {B l R most cnt : Nat} {ns : List Nd} (h : Lst w B l R most cnt ns) {C p : Nat} {r : Option Addr} {n c : Nat} {ls : List ByteArray} (hP : Pk w' C p r n c ls) (hC : w.heap.size ≤ C) : ∀ k ∈ p :: (r.map (·.block)).toList, k ∉ l :: R :: fpN ns := fun k hk hm => by
  have h1 := (h.fplt k hm).2
  have h2 := (hP.blocks.1 k hk).1
  omega
theorem Goes.link {w w0 w' : World} {l R : Nat} {l1 l2 : List Nd} {d : Nd} (hs : Stay w w0 (l :: R :: fpN (l1 ++ l2))) (hs2 : Stay w0 w' (l :: R :: fpN (l1 ++ l2))) (hd : ∀ k ∈ d.fp, w.heap.size ≤ k) : Goes w w' l R (l1 ++ l2) (l1 ++ d :: l2) := by
  refine ⟨hs.trans hs2 (fun _ hi => .inl hi), fun k hk => ?_⟩
  rw [fpN_append, fpN_cons] at hk
  rw [fpN_append]
  simp only [List.mem_append] at hk ⊢
  rcases hk with hk | hk | hk
  · exact .inl (.inl hk)
  · exact .inr (hd k hk)
  · exact .inl (.inr hk)
set_option maxRecDepth 100000 in
set_option maxHeartbeats 4000000 in
theorem putBehind_new (B l R most cnt : Nat) (l1 l2 : List Nd) (s : ByteArray) (w : World) (h : Lst w B l R most cnt (l1 ++ l2)) (hok : Ok most (l1 ++ l2)) (hs : s.size ≤ 4096) (hcnt : cnt ≤ 1000000) (hmost : 0 < most)
    (HA : ∀ w1, Below w.heap.size w w1 → Calls Tryz.prog 58 #[ptr l, ptr (laA R l1), .string s] w1 fun e w' => Below w1.heap.size w1 w' ∧ e = .returned (.bool false))
    (HC : ∀ w1, Below w.heap.size w w1 → Calls Tryz.prog 58 #[ptr l, ptr (hdA R l2), .string s] w1 fun e w' => Below w1.heap.size w1 w' ∧ e = .returned (.bool false)) :
    Calls Tryz.prog 28 #[ptr l, ptr (laA R l1), .string s] w fun e w' => e = .returned (.tuple #[]) ∧ PutAt w B l R most cnt l1 l2 s w' := by
  have HL : Hid (Lst w B l R most cnt (l1 ++ l2)) := h
  have HOk : Hid (Ok most (l1 ++ l2)) := hok
  have HS : Hid (s.size ≤ 4096) := hs
  have HMo : Hid (0 < most) := hmost
  have HA0 := HA w (Below.refl _ _)
  have hgp : ∀ w', Below w.heap.size w w' → w'.cell? ⟨laA R l1, 2, none⟩ = some (ptr (hdA R l2)) := fun w' hb => (h.keep hb).gap.1
  have HLk := fun p r n c ls w' => link_any B l R most cnt l1 l2 p r n c ls w'
  clear h hok hs HA hmost
  generalize laA R l1 = u at *
  generalize hdA R l2 = v at *
  go_enter Tryz.func28, Tryz.ntmps28
  go_wp2_with fail
  refine HA0.mono ?_
  rintro e w1 ⟨hb, rfl⟩
  have HB : Hid (Below w.heap.size w w1) := hb
  have hg1 := hgp w1 hb
  have HC1 := HC w1 hb
  clear hb HA0 HC
  go_wp2_with fail
  refine HC1.mono ?_
  rintro e w2 ⟨hb, rfl⟩
  have HB2 := step_below HB hb
  clear hb HC1 hgp hg1
  have HNw := New_any w2
  go_wp2_with fail
  refine HNw.mono ?_
  rintro e w3 ⟨hb, p, a, n, c, rfl, hP⟩
  have HB3 := step_below HB2 hb
  have HP : Hid (Pk w3 w2.heap.size p a n c []) := hP
  have h0 : n = 0 := hP.len.symm
  clear hb HNw hP
  have hba : Below w3.heap.size w3 (w3.alloc (.cells #[.string s] 9)) := alloc_below w3 _
  have HBa : Hid (Below w.heap.size w (w3.alloc (.cells #[.string s] 9))) := HB3.out.trans (hba.mono HB3.out.size)
  have HI := Insert_ok w2.heap.size p a n c [] 0 (some ⟨w3.heap.size, 0, none⟩) 1 1 [s] (w3.alloc (.cells #[.string s] 9)) (HP.out.keep hba) (fun t ht => absurd ht (by simp)) (by omega) (Nat.le_refl _) (RdS.box w3 s) (fit_one HS.out) (by decide) (by rw [pack_one]; have := (enc_le s HS.out).2; omega)
  rw [List.take_nil, List.drop_nil, List.append_nil, List.nil_append] at HI
  clear hba h0
  go_wp2_with fail
  refine HI.mono ?_
  rintro e w4 ⟨rfl, hM, a', n', c', hP4, hW4⟩
  have hl4 : n' ≤ 65536 := by have h1 := hP4.len; rw [pack_one] at h1; have h2 := (enc_le s HS.out).2; omega
  have hsz := HB2.out.size
  have hs4 : Stay w w4 (l :: R :: fpN (l1 ++ l2)) := by
    refine (Stay.of_below HBa.out (l :: R :: fpN (l1 ++ l2))).trans (Stay.of_moves hM) ?_
    intro k hk
    refine .inr (Nat.le_trans hsz ?_)
    exact (HP.out.blocks.1 k hk).1
  have hL4 : Lst w4 B l R most cnt (l1 ++ l2) := by
    refine (HL.out.keep HBa.out).stay (Stay.of_moves hM) ?_
    intro k hk hm
    exact HL.out.fresh HP.out hsz k hm hk
  have HK := HLk p a' n' c' [s] w4 hL4 (hP4.low' (Nat.le_trans (Nat.le_trans HL.out.lowl (Nat.le_of_lt HL.out.lt)) hsz)) (fit_one HS.out) hl4 hP4.blocks.2 (HL.out.fresh hP4 hsz)
  have HS4 : Hid (Stay w w4 (l :: R :: fpN (l1 ++ l2))) := hs4
  have HP4 : Hid (Pk w4 w2.heap.size p a' n' c' [s]) := hP4
  have HSz : Hid (w.heap.size ≤ w2.heap.size) := hsz
  clear hM hP4 hW4 hs4 hL4 HLk HI
  go_wp2_with fail
  refine HK.mono ?_
  rintro e w5 ⟨rfl, f, hf, hL5, hS5⟩
  obtain ⟨h6, h7⟩ := hL5.count (cnt + 1)
  have hc5 := hL5.ccnt
  have hf5 := hL5.frozen 1
  have HP : Hid (PutAt w B l R most cnt l1 l2 s (w5.setCell ⟨l, 1, none⟩ (.int .i64 ((cnt + 1 : Nat) : Nat)))) := by
    refine ⟨l1, [⟨f, p, a', n', c', [s]⟩], l2, h6, ?_, HOk.out.more (d := ⟨f, p, a', n', c', [s]⟩) ⟨by simp, HMo.out⟩, rfl, rfl, by simp [txN_cons, txN_nil]⟩
    refine (Goes.link HS4.out hS5 ?_).trans h7
    intro k hk
    have h1 := HS4.out.size
    rcases List.mem_cons.1 hk with rfl | hk
    · exact Nat.le_trans h1 hf
    · exact Nat.le_trans HSz.out (HP4.out.blocks.1 k hk).1
  clear hL5 hS5 h6 h7 hf
  go_wp2
  go_end0
  exact ⟨rfl, HP.out⟩
theorem putBehind_any (B l R most cnt : Nat) (l1 l2 : List Nd) (s : ByteArray) (w : World) (h : Lst w B l R most cnt (l1 ++ l2)) (hok : Ok most (l1 ++ l2)) (hs : s.size ≤ 4096) (hcnt : cnt ≤ 1000000) (hmost : 0 < most) :
    Calls Tryz.prog 28 #[ptr l, ptr (laA R l1), .string s] w fun e w' => e = .returned (.tuple #[]) ∧ PutAt w B l R most cnt l1 l2 s w' := by
  have hu : laA R l1 ∈ R :: adr (l1 ++ l2) := by
    rw [adr_append]
    have := laA_mem R l1
    simp only [List.mem_cons, List.mem_append] at this ⊢
    exact this.imp id .inl
  have hv : hdA R l2 ∈ R :: adr (l1 ++ l2) := by
    rw [adr_append]
    have := hdA_mem R l2
    simp only [List.mem_cons, List.mem_append] at this ⊢
    exact this.imp id .inr
  rcases hasRoom_at B l R most cnt _ _ s w h hu hs with HA | ⟨d, hd, hda, hm, hn, HA⟩
  · rcases hasRoom_at B l R most cnt _ _ s w h hv hs with HC | ⟨d, hd, hda, hm, hn, HC⟩
    · exact putBehind_new B l R most cnt l1 l2 s w h hok hs hcnt hmost HA HC
    · cases l2 with
      | nil => exact absurd hda (h.ne_ring hd)
      | cons e k2 =>
        have : d = e := h.same hd (by simp) hda
        subst this
        exact putBehind_back B l R most cnt l1 k2 d s w h hok hs hcnt hm hn HA HC
  · rcases snoc_ex l1 with rfl | ⟨k, e, rfl⟩
    · exact absurd hda (h.ne_ring hd)
    · rw [laA_snoc] at hda HA ⊢
      have : d = e := h.same hd (by simp) hda
      subst this
      have es : k ++ [d] ++ l2 = k ++ d :: l2 := by simp
      rw [es] at h hok
      have := putBehind_fore B l R most cnt k l2 d s w h hok hs hcnt hm hn HA
      exact this
/-- What join does at a gap. -/
def JoinAt (w : World) (B l R most cnt : Nat) (l1 l2 : List Nd) (b : Bool) (w' : World) : Prop :=
  (b = false ∧ Below w.heap.size w w') ∨
  (b = true ∧ ∃ k1 d e k2 d', l1 = k1 ++ [d] ∧ l2 = e :: k2 ∧ Lst w' B l R most cnt (k1 ++ d' :: k2) ∧ Goes w w' l R (l1 ++ l2) (k1 ++ d' :: k2) ∧ d'.a = d.a ∧ d'.ls = d.ls ++ e.ls ∧ d'.ls.length ≤ most)
/-- What a call does to a list: it has these texts then. -/
def Does (w : World) (B l R most cnt : Nat) (ns : List Nd) (ts : List ByteArray) (w' : World) : Prop :=
  ∃ ns', Lst w' B l R most cnt ns' ∧ Goes w w' l R ns ns' ∧ Ok most ns' ∧ txN ns' = ts
/-- Behind a join that took place, or did not. -/
theorem JoinAt.does {w w' : World} {B l R most cnt : Nat} {l1 l2 : List Nd} {b : Bool} (h : Lst w B l R most cnt (l1 ++ l2)) (hok : Ok most (l1 ++ l2)) (hj : JoinAt w B l R most cnt l1 l2 b w') : Does w B l R most cnt (l1 ++ l2) (txN (l1 ++ l2)) w' := by
  rcases hj with ⟨-, hb⟩ | ⟨-, k1, d, e, k2, d', rfl, rfl, h4, h5, h6, h7, h8⟩
  · exact ⟨_, h.keep hb, Goes.of_below hb _ _ _, hok, rfl⟩
  · refine ⟨_, h4, h5, ?_, ?_⟩
    · intro x hx
      rcases mem_or hx with rfl | hx
      · have := (hok d (by simp)).1
        rw [h7, List.length_append] at h8 ⊢
        omega
      · refine hok x ?_
        simp only [List.mem_append, List.mem_cons, List.not_mem_nil, or_false] at hx ⊢
        rcases hx with hx | hx
        · exact .inl (.inl hx)
        · exact .inr (.inr hx)
    · rw [txN_append, txN_cons, h7, txN_append, txN_append, txN_cons, txN_cons]; simp [txN_nil]
end Go.Proofs.YtmjeljldmmkcpabGreat
