/- Texts that the others stand on. -/
import Derived.Test.YtmjeljldmmkcpaaGreatK23
namespace Go.Proofs.YtmjeljldmmkcpaaGreat
open Go.RowKit Go.PlainAid
structure Stay (w w' : World) (M : List Nat) : Prop where
 os : w'.os = w.os
 tape : w'.tape = w.tape
 output : w'.output = w.output
 size : w.heap.size ≤ w'.heap.size
 block : ∀ k, k < w.heap.size → k ∉ M → w'.heap[k]? = w.heap[k]?
theorem Stay.of_below {w w' : World} (h : Below w.heap.size w w') (M : List Nat) : Stay w w' M := ⟨h.os, h.tape, h.output, h.size, fun k hk _ => h.block k hk⟩
theorem Stay.trans {w w1 w2 : World} {M M' : List Nat} (h : Stay w w1 M) (k : Stay w1 w2 M') (hM : ∀ i ∈ M', i ∈ M ∨ w.heap.size ≤ i) : Stay w w2 M :=
 ⟨k.os.trans h.os, k.tape.trans h.tape, k.output.trans h.output, Nat.le_trans h.size k.size, fun i hi hn =>
  (k.block i (Nat.lt_of_lt_of_le hi h.size) (fun hm => (hM i hm).elim hn (fun h1 => by omega))).trans (h.block i hi hn)⟩
theorem Stay.mono {w w' : World} {M M' : List Nat} (h : Stay w w' M) (hM : ∀ i ∈ M, i ∈ M') : Stay w w' M' :=
 ⟨h.os, h.tape, h.output, h.size, fun k hk hn => h.block k hk (fun hm => hn (hM k hm))⟩
theorem Stay.below {w w' : World} {M : List Nat} {B : Nat} (h : Stay w w' M) (hM : ∀ i ∈ M, B ≤ i) (hB : B ≤ w.heap.size) : Below B w w' :=
 ⟨h.os, h.tape, h.output, h.size, fun k hk => h.block k (Nat.lt_of_lt_of_le hk hB) (fun hm => by have := hM k hm; omega)⟩
theorem Stay.set {w : World} {q o : Nat} {v : Value} : Stay w (w.setCell ⟨q, o, none⟩ v) [q] :=
 ⟨rfl, rfl, rfl, by simp [World.setCell], fun k _ h1 => Below.heap_setCell _ _ _ _ (by simpa using h1)⟩
theorem Stay.of_moves {w w' : World} {p : Nat} {a : Option Addr} (h : Ai w w' p a) : Stay w w' (p :: (a.map (·.block)).toList) :=
 ⟨h.os, h.tape, h.output, h.size, fun k hk hn => h.block k hk (fun e => hn (by simp [e])) (fun e => hn (by rw [← e]; simp))⟩
structure Nd where
 a : Nat
 p : Nat
 r : Option Addr
 n : Nat
 c : Nat
 ls : List BA
def Nd.fp (d : Nd) : List Nat := d.a :: d.p :: (d.r.map (·.block)).toList
def fpN (ns : List Nd) : List Nat := ns.flatMap Nd.fp
def txN (ns : List Nd) : List BA := ns.flatMap Nd.ls
def adr (ns : List Nd) : List Nat := ns.map Nd.a
theorem fpN_append (a b : List Nd) : fpN (a ++ b) = fpN a ++ fpN b := List.flatMap_append ..
theorem fpN_cons (d : Nd) (b : List Nd) : fpN (d :: b) = d.fp ++ fpN b := List.flatMap_cons ..
theorem Bf (a b : List Nd) : txN (a ++ b) = txN a ++ txN b := List.flatMap_append ..
theorem Bp (d : Nd) (b : List Nd) : txN (d :: b) = d.ls ++ txN b := List.flatMap_cons ..
theorem Ao (a b : List Nd) : adr (a ++ b) = adr a ++ adr b := List.map_append ..
theorem Ch (d : Nd) (b : List Nd) : adr (d :: b) = d.a :: adr b := List.map_cons ..
theorem mem_fpN {ns : List Nd} {d : Nd} (h : d ∈ ns) {k : Nat} (hk : k ∈ d.fp) : k ∈ fpN ns := List.mem_flatMap.2 ⟨d, h, hk⟩
theorem adr_fpN {ns : List Nd} {k : Nat} (h : k ∈ adr ns) : k ∈ fpN ns := by
 obtain ⟨d, hd, rfl⟩ := List.mem_map.1 h
 exact mem_fpN hd (by simp [Nd.fp])
theorem adr_sub : ∀ ns : List Nd, (adr ns).Sublist (fpN ns)
 | [] => List.Sublist.slnil
 | d :: r => by
  rw [Ch, fpN_cons]
  show (d.a :: adr r).Sublist (d.a :: (d.p :: (d.r.map (·.block)).toList ++ fpN r))
  exact ((adr_sub r).trans (List.sublist_append_right _ _)).cons_cons _
def hdA (R : Nat) : List Nd → Nat
 | [] => R
 | d :: _ => d.a
def laA (R : Nat) (ns : List Nd) : Nat := match ns.getLast? with
 | none => R
 | some d => d.a
theorem laA_nil (R : Nat) : laA R [] = R := rfl
theorem Cx (R : Nat) (ns : List Nd) (d : Nd) : laA R (ns ++ [d]) = d.a := by unfold laA; rw [List.getLast?_concat]
theorem snoc_ex (ns : List Nd) : ns = [] ∨ ∃ k d, ns = k ++ [d] := by
 rcases List.eq_nil_or_concat ns with h | ⟨k, d, h⟩
 ·exact .inl h
 ·exact .inr ⟨k, d, by rw [h, List.concat_eq_append]⟩
theorem laA_mem (R : Nat) (ns : List Nd) : laA R ns ∈ R :: adr ns := by
 rcases snoc_ex ns with rfl | ⟨k, d, rfl⟩
 ·simp [laA_nil]
 ·rw [Cx, Ao]; simp [adr]
theorem hdA_mem (R : Nat) (ns : List Nd) : hdA R ns ∈ R :: adr ns := by
 cases ns with
 | nil => simp [hdA]
 | cons d r => simp [hdA, adr]
theorem fore_ex (R : Nat) (l1 : List Nd) : ∃ X, R :: adr l1 = X ++ [laA R l1] := by
 rcases snoc_ex l1 with rfl | ⟨k, d, rfl⟩
 ·exact ⟨[], rfl⟩
 ·exact ⟨R :: adr k, by rw [Cx, Ao]; rfl⟩
theorem back_ex (R : Nat) (l2 : List Nd) : ∃ Y, adr l2 ++ [R] = hdA R l2 :: Y := by
 cases l2 with
 | nil => exact ⟨[], rfl⟩
 | cons d r => exact ⟨adr r ++ [R], rfl⟩
def Adj (w : World) : List Nat → Prop
 | u :: v :: r => (w.cell? ⟨u, 2, none⟩ = some (ptr v) ∧ w.cell? ⟨v, 1, none⟩ = some (ptr u)) ∧ Adj w (v :: r)
 | _ => True
theorem Adj_append (w : World) (u : Nat) (Z : List Nat) : ∀ X : List Nat, Adj w (X ++ u :: Z) ↔ Adj w (X ++ [u]) ∧ Adj w (u :: Z)
 | [] => by simp [Adj]
 | [x] => by simp [Adj]
 | x :: y :: r => by
  have := Adj_append w u Z (y :: r)
  simp only [List.cons_append] at this ⊢
  simp only [Adj]
  rw [this]
  simp only [and_assoc]
theorem Adj_congr {w w' : World} : ∀ L : List Nat, (∀ k ∈ L.dropLast, w'.cell? ⟨k, 2, none⟩ = w.cell? ⟨k, 2, none⟩) → (∀ k ∈ L.tail, w'.cell? ⟨k, 1, none⟩ = w.cell? ⟨k, 1, none⟩) → Adj w L → Adj w' L
 | [], _, _, _ => trivial
 | [_], _, _, _ => trivial
 | u :: v :: r, h1, h2, h => by
  refine ⟨⟨?_, ?_⟩, Adj_congr (v :: r) (fun k hk => h1 k (by rw [List.dropLast_cons_cons]; exact List.mem_cons_of_mem _ hk)) (fun k hk => h2 k (List.mem_cons_of_mem _ hk)) h.2⟩
  ·rw [h1 u (by rw [List.dropLast_cons_cons]; simp)]; exact h.1.1
  ·rw [h2 v (by simp)]; exact h.1.2
structure Nod (w : World) (B : Nat) (d : Nd) : Prop where
 blk : ∃ x y, w.heap[d.a]? = some (.cells #[ptr d.p, x, y] 151 (0, 0))
 pk : Pk w B d.p d.r d.n d.c d.ls
 fit : Fit d.ls
 siz : d.n ≤ 65536
 low : B ≤ d.a
theorem Nod.lt {w : World} {B : Nat} {d : Nd} (h : Nod w B d) : d.a < w.heap.size := by
 obtain ⟨x, y, e⟩ := h.blk
 exact (Array.getElem?_eq_some_iff.1 e).1
theorem Nod.fplt {w : World} {B : Nat} {d : Nd} (h : Nod w B d) : ∀ k ∈ d.fp, B ≤ k ∧ k < w.heap.size := by
 intro k hk
 rcases List.mem_cons.1 hk with rfl | hk
 ·exact ⟨h.low, h.lt⟩
 rcases List.mem_cons.1 hk with rfl | hk
 ·exact ⟨h.pk.low, h.pk.lt⟩
 ·rw [Option.mem_toList] at hk
  exact h.pk.own.lt k (by rw [← hk]; cases d.r <;> rfl)
theorem Own.stay {w w' : World} {B : Nat} {a : Option Addr} {n c : Nat} {l : List UInt8} {M : List Nat} (h : Own w B a n c l) (hs : Stay w w' M) (hd : ∀ k ∈ (a.map (·.block)).toList, k ∉ M) : Own w' B a n c l := by
 refine ⟨h.1, ?_⟩
 rcases h.2 with h2 | ⟨g, c', cur, h1, h3, h4, h5⟩
 ·exact .inl h2
 ·refine .inr ⟨g, c', cur, h1, h3, ?_, h5⟩
  rw [hs.block g (Array.getElem?_eq_some_iff.1 h4).1 (hd g (by injection h1 with e1; rw [e1]; simp))]
  exact h4
theorem Pk.stay {w w' : World} {B p : Nat} {a : Option Addr} {n c : Nat} {ls : List BA} {M : List Nat} (h : Pk w B p a n c ls) (hs : Stay w w' M) (hp : p ∉ M) (hd : ∀ k ∈ (a.map (·.block)).toList, k ∉ M) : Pk w' B p a n c ls :=
 ⟨by rw [hs.block p h.lt hp]; exact h.blk, h.low, h.own.stay hs hd⟩
theorem Nod.stay {w w' : World} {B : Nat} {d : Nd} {M : List Nat} (h : Nod w B d) (hs : Stay w w' M) (hd : ∀ k ∈ d.fp, k ∉ M) : Nod w' B d := by
 refine ⟨?_, h.pk.stay hs (hd _ (by simp [Nd.fp])) (fun k hk => hd k (by simp only [Nd.fp, List.mem_cons]; exact .inr (.inr hk))), h.fit, h.siz, h.low⟩
 rw [hs.block d.a h.lt (hd _ (by simp [Nd.fp]))]
 exact h.blk
theorem Nod.turn {w w' : World} {B : Nat} {d : Nd} (h : Nod w B d) (hp : w'.heap[d.p]? = w.heap[d.p]?) (hr : ∀ k ∈ (d.r.map (·.block)).toList, w'.heap[k]? = w.heap[k]?) (hb : ∃ x y, w'.heap[d.a]? = some (.cells #[ptr d.p, x, y] 151 (0, 0))) : Nod w' B d := by
 refine ⟨hb, ⟨by rw [hp]; exact h.pk.blk, h.pk.low, ?_⟩, h.fit, h.siz, h.low⟩
 refine ⟨h.pk.own.1, ?_⟩
 rcases h.pk.own.2 with h2 | ⟨g, c', cur, h1, h3, h4, h5⟩
 ·exact .inl h2
 ·refine .inr ⟨g, c', cur, h1, h3, ?_, h5⟩
  rw [hr g (by injection h1 with e1; rw [e1]; simp)]
  exact h4
structure Lst (w : World) (B l R most cnt : Nat) (ns : List Nd) : Prop where
 blk : w.heap[l]? = some (.cells #[.int .i64 (most : Nat), .int .i64 (cnt : Nat), ptr R] 153 (0, 0))
 ring : ∃ x y, w.heap[R]? = some (.cells #[.pointer none, x, y] 151 (0, 0))
 adj : Adj w (R :: adr ns ++ [R])
 nod : ∀ d ∈ ns, Nod w B d
 num : (l :: R :: fpN ns).Nodup
 lowl : B ≤ l
 lowR : B ≤ R
theorem Lst.lt {w : World} {B l R most cnt : Nat} {ns : List Nd} (h : Lst w B l R most cnt ns) : l < w.heap.size := (Array.getElem?_eq_some_iff.1 h.blk).1
theorem Lst.ltR {w : World} {B l R most cnt : Nat} {ns : List Nd} (h : Lst w B l R most cnt ns) : R < w.heap.size := by
 obtain ⟨x, y, e⟩ := h.ring
 exact (Array.getElem?_eq_some_iff.1 e).1
theorem Lst.fplt {w : World} {B l R most cnt : Nat} {ns : List Nd} (h : Lst w B l R most cnt ns) : ∀ k ∈ l :: R :: fpN ns, B ≤ k ∧ k < w.heap.size := by
 intro k hk
 rcases List.mem_cons.1 hk with rfl | hk
 ·exact ⟨h.lowl, h.lt⟩
 rcases List.mem_cons.1 hk with rfl | hk
 ·exact ⟨h.lowR, h.ltR⟩
 ·obtain ⟨d, hd, hk⟩ := List.mem_flatMap.1 hk
  exact (h.nod d hd).fplt k hk
theorem Lst.numA {w : World} {B l R most cnt : Nat} {ns : List Nd} (h : Lst w B l R most cnt ns) : (R :: adr ns).Nodup := by
 have := (List.nodup_cons.1 h.num).2
 exact this.sublist ((adr_sub ns).cons_cons _)
theorem Lst.adlt {w : World} {B l R most cnt : Nat} {ns : List Nd} (h : Lst w B l R most cnt ns) : ∀ k ∈ R :: adr ns, k < w.heap.size ∧ k ≠ l := by
 intro k hk
 have hk2 : k ∈ R :: fpN ns := by
  rcases List.mem_cons.1 hk with rfl | hk
  ·simp
  ·exact List.mem_cons_of_mem _ (adr_fpN hk)
 refine ⟨(h.fplt k (List.mem_cons_of_mem _ hk2)).2, fun e => ?_⟩
 subst e
 exact (List.nodup_cons.1 h.num).1 hk2
theorem Lst.stay {w w' : World} {B l R most cnt : Nat} {ns : List Nd} {M : List Nat} (h : Lst w B l R most cnt ns) (hs : Stay w w' M) (hd : ∀ k ∈ l :: R :: fpN ns, k ∉ M) : Lst w' B l R most cnt ns := by
 have hc : ∀ k ∈ R :: adr ns, ∀ o, w'.cell? ⟨k, o, none⟩ = w.cell? ⟨k, o, none⟩ := fun k hk o =>
  World.cell?_of_block (hs.block k (h.adlt k hk).1 (hd k (List.mem_cons_of_mem _ (by
   rcases List.mem_cons.1 hk with rfl | hk
   ·simp
   ·exact List.mem_cons_of_mem _ (adr_fpN hk)))))
 refine ⟨by rw [hs.block l h.lt (hd _ (by simp))]; exact h.blk, by rw [hs.block R h.ltR (hd _ (by simp))]; exact h.ring, ?_, fun d hdm => (h.nod d hdm).stay hs (fun k hk => hd k (List.mem_cons_of_mem _ (List.mem_cons_of_mem _ (mem_fpN hdm hk)))), h.num, h.lowl, h.lowR⟩
 refine Adj_congr _ (fun k hk => hc k ?_ 2) (fun k hk => hc k ?_ 1) h.adj
 ·rw [List.dropLast_concat] at hk; exact hk
 ·simp only [List.cons_append, List.tail_cons, List.mem_append, List.mem_singleton] at hk
  rcases hk with hk | rfl
  ·exact List.mem_cons_of_mem _ hk
  ·simp
theorem Lst.keep {w w' : World} {B l R most cnt : Nat} {ns : List Nd} (h : Lst w B l R most cnt ns) (hb : Below w.heap.size w w') : Lst w' B l R most cnt ns := h.stay (Stay.of_below hb []) (fun _ _ => by simp)
theorem Lst.cmost {w : World} {B l R most cnt : Nat} {ns : List Nd} (h : Lst w B l R most cnt ns) : w.cell? ⟨l, 0, none⟩ = some (.int .i64 (most : Nat)) := by simp [World.cell?, h.blk]
theorem Lst.ccnt {w : World} {B l R most cnt : Nat} {ns : List Nd} (h : Lst w B l R most cnt ns) : w.cell? ⟨l, 1, none⟩ = some (.int .i64 (cnt : Nat)) := by simp [World.cell?, h.blk]
theorem Lst.cring {w : World} {B l R most cnt : Nat} {ns : List Nd} (h : Lst w B l R most cnt ns) : w.cell? ⟨l, 2, none⟩ = some (ptr R) := by simp [World.cell?, h.blk]
theorem Lst.frozen {w : World} {B l R most cnt : Nat} {ns : List Nd} (h : Lst w B l R most cnt ns) (o : Nat) : w.frozen? ⟨l, o, none⟩ = false := by simp [World.frozen?, h.blk]
theorem Lst.nfrozen {w : World} {B l R most cnt : Nat} {ns : List Nd} (h : Lst w B l R most cnt ns) {k : Nat} (hk : k ∈ R :: adr ns) (o : Nat) : w.frozen? ⟨k, o, none⟩ = false := by
 rcases List.mem_cons.1 hk with rfl | hk
 ·obtain ⟨x, y, e⟩ := h.ring; simp [World.frozen?, e]
 ·obtain ⟨d, hd, rfl⟩ := List.mem_map.1 hk
  obtain ⟨x, y, e⟩ := (h.nod d hd).blk; simp [World.frozen?, e]
theorem Lst.cpk {w : World} {B l R most cnt : Nat} {ns : List Nd} (h : Lst w B l R most cnt ns) {d : Nd} (hd : d ∈ ns) : w.cell? ⟨d.a, 0, none⟩ = some (ptr d.p) := by
 obtain ⟨x, y, e⟩ := (h.nod d hd).blk; simp [World.cell?, e]
theorem Lst.gap {w : World} {B l R most cnt : Nat} {l1 l2 : List Nd} (h : Lst w B l R most cnt (l1 ++ l2)) : w.cell? ⟨laA R l1, 2, none⟩ = some (ptr (hdA R l2)) ∧ w.cell? ⟨hdA R l2, 1, none⟩ = some (ptr (laA R l1)) := by
 have ha := h.adj
 obtain ⟨X, hX⟩ := fore_ex R l1
 obtain ⟨Y, hY⟩ := back_ex R l2
 have e : R :: adr (l1 ++ l2) ++ [R] = X ++ laA R l1 :: hdA R l2 :: Y := by
  rw [Ao, ← hY]
  have : R :: (adr l1 ++ adr l2) ++ [R] = (R :: adr l1) ++ (adr l2 ++ [R]) := by simp
  rw [this, hX]; simp
 rw [e, Adj_append] at ha
 exact ha.2.1
theorem Lst.ne_ring {w : World} {B l R most cnt : Nat} {ns : List Nd} (h : Lst w B l R most cnt ns) {d : Nd} (hd : d ∈ ns) : d.a ≠ R := by
 intro e
 have := (List.nodup_cons.1 h.numA).1
 exact this (by rw [← e]; exact List.mem_map_of_mem hd)
structure Goes (w w' : World) (l R : Nat) (ns ns' : List Nd) : Prop where
 stay : Stay w w' (l :: R :: fpN ns)
 new : ∀ k ∈ fpN ns', k ∈ fpN ns ∨ w.heap.size ≤ k
theorem Goes.of_below {w w' : World} (h : Below w.heap.size w w') (l R : Nat) (ns : List Nd) : Goes w w' l R ns ns := ⟨Stay.of_below h _, fun _ hk => .inl hk⟩
theorem Goes.refl (w : World) (l R : Nat) (ns : List Nd) : Goes w w l R ns ns := Goes.of_below (Below.refl _ _) l R ns
theorem Goes.trans {w w1 w2 : World} {l R : Nat} {ns ns1 ns2 : List Nd} (h : Goes w w1 l R ns ns1) (k : Goes w1 w2 l R ns1 ns2) : Goes w w2 l R ns ns2 := by
 refine ⟨h.stay.trans k.stay ?_, ?_⟩
 ·intro i hi
  simp only [List.mem_cons] at hi ⊢
  rcases hi with rfl | rfl | hi
  ·simp
  ·simp
  ·exact (h.new i hi).imp (fun h => .inr (.inr h)) id
 ·intro i hi
  rcases k.new i hi with h1 | h1
  ·exact h.new i h1
  ·exact .inr (Nat.le_trans h.stay.size h1)
theorem Goes.first {w w1 w2 : World} {l R : Nat} {ns ns' : List Nd} (hb : Below w.heap.size w w1) (h : Goes w1 w2 l R ns ns') : Goes w w2 l R ns ns' := (Goes.of_below hb l R ns).trans h
theorem fp_perm (l R : Nat) (l1 l2 : List Nd) (d : Nd) : (l :: R :: fpN (l1 ++ d :: l2)).Perm (d.fp ++ (l :: R :: fpN (l1 ++ l2))) := by
 rw [fpN_append, fpN_cons, fpN_append]
 have h1 : (fpN l1 ++ (d.fp ++ fpN l2)).Perm (d.fp ++ (fpN l1 ++ fpN l2)) := by
  rw [← List.append_assoc, ← List.append_assoc]; exact List.perm_append_comm.append_right _
 refine ((h1.cons R).cons l).trans ?_
 generalize fpN l1 ++ fpN l2 = E
 have h2 : ([l, R] ++ (d.fp ++ E)).Perm (d.fp ++ ([l, R] ++ E)) := by
  rw [← List.append_assoc, ← List.append_assoc]; exact List.perm_append_comm.append_right _
 exact h2
theorem Lst.apart {w : World} {B l R most cnt : Nat} {l1 l2 : List Nd} {d : Nd} (h : Lst w B l R most cnt (l1 ++ d :: l2)) : d.fp.Nodup ∧ (l :: R :: fpN (l1 ++ l2)).Nodup ∧ ∀ k ∈ l :: R :: fpN (l1 ++ l2), k ∉ d.fp := by
 have := (fp_perm l R l1 l2 d).nodup_iff.1 h.num
 rw [List.nodup_append] at this
 exact ⟨this.1, this.2.1, fun k hk hd => this.2.2 k hd k hk rfl⟩
theorem mem_mid {l1 l2 : List Nd} {e : Nd} (h : e ∈ l1 ++ l2) (d : Nd) : e ∈ l1 ++ d :: l2 := by
 rcases List.mem_append.1 h with h | h
 ·exact List.mem_append_left _ h
 ·exact List.mem_append_right _ (List.mem_cons_of_mem _ h)
theorem mem_or {l1 l2 : List Nd} {e d : Nd} (h : e ∈ l1 ++ d :: l2) : e = d ∨ e ∈ l1 ++ l2 := by
 rcases List.mem_append.1 h with h | h
 ·exact .inr (List.mem_append_left _ h)
 ·rcases List.mem_cons.1 h with h | h
  ·exact .inl h
  ·exact .inr (List.mem_append_right _ h)
theorem mem_sub {l R k : Nat} {l1 l2 : List Nd} {e : Nd} (he : e ∈ l1 ++ l2) (hk : k ∈ e.fp) : k ∈ l :: R :: fpN (l1 ++ l2) := List.mem_cons_of_mem _ (List.mem_cons_of_mem _ (mem_fpN he hk))
theorem Lst.put {w w' : World} {B l R most cnt : Nat} {l1 l2 : List Nd} {d d' : Nd} (h : Lst w B l R most cnt (l1 ++ d :: l2)) (ha : d'.a = d.a) {M : List Nat} (hs : Stay w w' M) (hM : ∀ k ∈ M, k ∈ d.fp)
  (hc : ∀ o, o = 1 ∨ o = 2 → w'.cell? ⟨d.a, o, none⟩ = w.cell? ⟨d.a, o, none⟩) (hN : Nod w' B d') (hnd : d'.fp.Nodup) (hnew : ∀ k ∈ d'.fp, k ∈ d.fp ∨ w.heap.size ≤ k) : Lst w' B l R most cnt (l1 ++ d' :: l2) ∧ Goes w w' l R (l1 ++ d :: l2) (l1 ++ d' :: l2) := by
 obtain ⟨hn1, hn2, hn3⟩ := h.apart
 have hlt : ∀ k ∈ l :: R :: fpN (l1 ++ l2), k < w.heap.size := fun k hk => (h.fplt k ((fp_perm l R l1 l2 d).mem_iff.2 (List.mem_append_right _ hk))).2
 have hbk : ∀ k ∈ l :: R :: fpN (l1 ++ l2), w'.heap[k]? = w.heap[k]? := fun k hk => hs.block k (hlt k hk) (fun hm => hn3 k hk (hM k hm))
 have hadr : adr (l1 ++ d' :: l2) = adr (l1 ++ d :: l2) := by rw [Ao, Ao, Ch, Ch, ha]
 have hcell : ∀ k ∈ R :: adr (l1 ++ d :: l2), ∀ o, o = 1 ∨ o = 2 → w'.cell? ⟨k, o, none⟩ = w.cell? ⟨k, o, none⟩ := by
  intro k hk o ho
  by_cases hkd : k = d.a
  ·subst hkd; exact hc o ho
  ·refine World.cell?_of_block (hbk k ?_)
   rcases List.mem_cons.1 hk with rfl | hk
   ·simp
   ·obtain ⟨e, he, rfl⟩ := List.mem_map.1 hk
    rcases mem_or he with rfl | he
    ·exact absurd rfl hkd
    ·exact mem_sub he (by simp [Nd.fp])
 refine ⟨⟨by rw [hbk l (by simp)]; exact h.blk, by rw [hbk R (by simp)]; exact h.ring, ?_, ?_, ?_, h.lowl, h.lowR⟩, ?_, ?_⟩
 ·rw [hadr]
  refine Adj_congr _ (fun k hk => hcell k ?_ 2 (.inr rfl)) (fun k hk => hcell k ?_ 1 (.inl rfl)) h.adj
  ·rw [List.dropLast_concat] at hk; exact hk
  ·simp only [List.cons_append, List.tail_cons, List.mem_append, List.mem_singleton] at hk
   rcases hk with hk | rfl
   ·exact List.mem_cons_of_mem _ hk
   ·simp
 ·intro e he
  rcases mem_or he with rfl | he
  ·exact hN
  ·exact (h.nod e (mem_mid he d)).stay hs (fun k hk hm => hn3 k (mem_sub he hk) (hM k hm))
 ·refine (fp_perm l R l1 l2 d').nodup_iff.2 (List.nodup_append.2 ⟨hnd, hn2, ?_⟩)
  intro k hk j hj e
  subst e
  rcases hnew k hk with h1 | h1
  ·exact hn3 k hj h1
  ·have := hlt k hj; omega
 ·refine hs.mono fun k hk => ?_
  exact (fp_perm l R l1 l2 d).mem_iff.2 (List.mem_append_left _ (hM k hk))
 ·intro k hk
  rw [fpN_append, fpN_cons] at hk ⊢
  simp only [List.mem_append] at hk ⊢
  rcases hk with hk | hk | hk
  ·exact .inl (.inl hk)
  ·exact (hnew k hk).imp (fun h => .inr (.inl h)) id
  ·exact .inl (.inr (.inr hk))
theorem Lst.turn {w w' : World} {B l R most cnt : Nat} {l1 l2 : List Nd} {d : Nd} (h : Lst w B l R most cnt (l1 ++ d :: l2)) {r' : Option Addr} {n' c' : Nat} {ls' : List BA} (hm : Ai w w' d.p d.r) (hp : Pk w' B d.p r' n' c' ls') (hw : Went w d.r r') (hf : Fit ls') (hn : n' ≤ 65536) :
  Lst w' B l R most cnt (l1 ++ ⟨d.a, d.p, r', n', c', ls'⟩ :: l2) ∧ Goes w w' l R (l1 ++ d :: l2) (l1 ++ ⟨d.a, d.p, r', n', c', ls'⟩ :: l2) := by
 obtain ⟨hn1, -, -⟩ := h.apart
 have hd := h.nod d (by simp)
 have h1 : d.a ∉ d.p :: (d.r.map (·.block)).toList := (List.nodup_cons.1 hn1).1
 have h2 := List.nodup_cons.1 (List.nodup_cons.1 hn1).2
 have hs := Stay.of_moves hm
 have hbl : w'.heap[d.a]? = w.heap[d.a]? := hs.block d.a hd.lt h1
 have hnw : ∀ k ∈ (r'.map (·.block)).toList, k ∈ (d.r.map (·.block)).toList ∨ w.heap.size ≤ k := fun k hk => by
  rw [Option.mem_toList] at hk ⊢
  exact hw.blk hk
 refine h.put (d' := ⟨d.a, d.p, r', n', c', ls'⟩) rfl hs (fun k hk => List.mem_cons_of_mem _ hk) (fun o _ => World.cell?_of_block hbl) ⟨by rw [hbl]; exact hd.blk, hp, hf, hn, hd.low⟩ ?_ ?_
 ·show (d.a :: d.p :: (r'.map (·.block)).toList).Nodup
  have hlt := hd.fplt
  have ha := (hlt d.a (by simp [Nd.fp])).2
  have hpp := (hlt d.p (by simp [Nd.fp])).2
  refine List.nodup_cons.2 ⟨fun hm => ?_, List.nodup_cons.2 ⟨fun hm => ?_, ?_⟩⟩
  ·rcases List.mem_cons.1 hm with e | hm
   ·exact h1 (by rw [e]; simp)
   ·rcases hnw _ hm with h3 | h3
    ·exact h1 (List.mem_cons_of_mem _ h3)
    ·omega
  ·rcases hnw _ hm with h3 | h3
   ·exact h2.1 h3
   ·omega
  ·cases r' <;> simp
 ·intro k hk
  rcases List.mem_cons.1 hk with rfl | hk
  ·exact .inl (by simp [Nd.fp])
  rcases List.mem_cons.1 hk with rfl | hk
  ·exact .inl (by simp [Nd.fp])
  ·exact (hnw k hk).imp (fun h => List.mem_cons_of_mem _ (List.mem_cons_of_mem _ h)) id
theorem Ak {w : World} {b o : Nat} {cs : Array Value} {t : TypeId} (h : w.heap[b]? = some (.cells cs t (0, 0))) (v : Value) : (w.setCell ⟨b, o, none⟩ v).heap[b]? = some (.cells (cs.setIfInBounds o v) t (0, 0)) := by
 simp [World.setCell, Array.getElem?_modify, h]
theorem heap_other {w : World} {b o k : Nat} (v : Value) (h : k ≠ b) : (w.setCell ⟨b, o, none⟩ v).heap[k]? = w.heap[k]? := Below.heap_setCell _ _ _ _ h
theorem Lst.count {w : World} {B l R most cnt : Nat} {ns : List Nd} (h : Lst w B l R most cnt ns) (c' : Nat) : Lst (w.setCell ⟨l, 1, none⟩ (.int .i64 (c' : Nat))) B l R most c' ns ∧ Goes w (w.setCell ⟨l, 1, none⟩ (.int .i64 (c' : Nat))) l R ns ns := by
 have hs : Stay w (w.setCell ⟨l, 1, none⟩ (.int .i64 (c' : Nat))) [l] := Stay.set
 have hne : ∀ k ∈ R :: fpN ns, k ≠ l := fun k hk e => (List.nodup_cons.1 h.num).1 (e ▸ hk)
 have hbk : ∀ k ∈ R :: fpN ns, (w.setCell ⟨l, 1, none⟩ (.int .i64 (c' : Nat))).heap[k]? = w.heap[k]? := fun k hk => heap_other _ (hne k hk)
 have hcell : ∀ k ∈ R :: adr ns, ∀ o, (w.setCell ⟨l, 1, none⟩ (.int .i64 (c' : Nat))).cell? ⟨k, o, none⟩ = w.cell? ⟨k, o, none⟩ := fun k hk o => World.cell?_of_block (hbk k (by
  rcases List.mem_cons.1 hk with rfl | hk
  ·simp
  ·exact List.mem_cons_of_mem _ (adr_fpN hk)))
 refine ⟨⟨by rw [Ak h.blk]; rfl, by rw [hbk R (by simp)]; exact h.ring, ?_, fun d hd => (h.nod d hd).stay hs (fun k hk => by simpa using hne k (List.mem_cons_of_mem _ (mem_fpN hd hk))), h.num, h.lowl, h.lowR⟩, hs.mono (by simp), fun _ hk => .inl hk⟩
 refine Adj_congr _ (fun k hk => hcell k ?_ 2) (fun k hk => hcell k ?_ 1) h.adj
 ·rw [List.dropLast_concat] at hk; exact hk
 ·simp only [List.cons_append, List.tail_cons, List.mem_append, List.mem_singleton] at hk
  rcases hk with hk | rfl
  ·exact List.mem_cons_of_mem _ hk
  ·simp
theorem nb_set {w : World} {k q o : Nat} {P v : Value} (h : ∃ x y, w.heap[k]? = some (.cells #[P, x, y] 151 (0, 0))) (ho : o = 1 ∨ o = 2) : ∃ x y, (w.setCell ⟨q, o, none⟩ v).heap[k]? = some (.cells #[P, x, y] 151 (0, 0)) := by
 obtain ⟨x, y, e⟩ := h
 by_cases hk : k = q
 ·subst hk
  rw [Ak e]
  rcases ho with rfl | rfl
  ·exact ⟨v, y, rfl⟩
  ·exact ⟨x, v, rfl⟩
 ·exact ⟨x, y, by rw [heap_other _ hk]; exact e⟩
theorem nb_cell {w : World} {k : Nat} {P : Value} (h : ∃ x y, w.heap[k]? = some (.cells #[P, x, y] 151 (0, 0))) : (∃ x, w.cell? ⟨k, 1, none⟩ = some x) ∧ ∃ y, w.cell? ⟨k, 2, none⟩ = some y := by
 obtain ⟨x, y, e⟩ := h
 exact ⟨⟨x, by simp [World.cell?, e]⟩, ⟨y, by simp [World.cell?, e]⟩⟩
theorem Lst.nb {w : World} {B l R most cnt : Nat} {ns : List Nd} (h : Lst w B l R most cnt ns) {k : Nat} (hk : k ∈ R :: adr ns) : ∃ P x y, w.heap[k]? = some (.cells #[P, x, y] 151 (0, 0)) := by
 rcases List.mem_cons.1 hk with rfl | hk
 ·exact ⟨_, h.ring⟩
 ·obtain ⟨d, hd, rfl⟩ := List.mem_map.1 hk
  exact ⟨_, (h.nod d hd).blk⟩
theorem Lst.rewire {w w' : World} {B l R most cnt : Nat} {ns ns' : List Nd} {M : List Nat} (h : Lst w B l R most cnt ns) (hs : Stay w w' M) (hM : ∀ k ∈ M, k ∈ R :: adr ns)
  (hb : ∀ k ∈ R :: adr ns, ∀ P, (∃ x y, w.heap[k]? = some (.cells #[P, x, y] 151 (0, 0))) → ∃ x y, w'.heap[k]? = some (.cells #[P, x, y] 151 (0, 0)))
  (hadj : Adj w' (R :: adr ns' ++ [R])) (hn : ∀ d ∈ ns', d ∈ ns ∨ Nod w' B d) (hnum : (l :: R :: fpN ns').Nodup) : Lst w' B l R most cnt ns' := by
 have hlM : l ∉ M := fun hm => (h.adlt l (hM l hm)).2 rfl
 refine ⟨by rw [hs.block l h.lt hlM]; exact h.blk, hb R (by simp) _ h.ring, hadj, fun d hd => ?_, hnum, h.lowl, h.lowR⟩
 rcases hn d hd with hd2 | hd2
 ·have hN := h.nod d hd2
  obtain ⟨a, c, e⟩ := List.append_of_mem hd2
  subst e
  obtain ⟨k1, k2, k3⟩ := h.apart
  have hfar : ∀ k ∈ d.p :: (d.r.map (·.block)).toList, k ∉ M := by
   intro k hk hm
   rcases List.mem_cons.1 (hM k hm) with e | hm2
   ·subst e
    exact k3 k (by simp) (List.mem_cons_of_mem _ hk)
   ·obtain ⟨e, he, rfl⟩ := List.mem_map.1 hm2
    rcases mem_or he with rfl | he
    ·exact (List.nodup_cons.1 k1).1 hk
    ·exact k3 e.a (mem_sub he (by simp [Nd.fp])) (List.mem_cons_of_mem _ hk)
  refine hN.turn (hs.block d.p hN.pk.lt (hfar _ (by simp))) (fun k hk => hs.block k (hN.fplt k (List.mem_cons_of_mem _ (List.mem_cons_of_mem _ hk))).2 (hfar k (List.mem_cons_of_mem _ hk))) (hb d.a (List.mem_cons_of_mem _ (List.mem_map_of_mem hd2)) _ hN.blk)
 ·exact hd2
end Go.Proofs.YtmjeljldmmkcpaaGreat
