/-
  What a list is when one of its packs, its count or its ring has turned.
-/
import Derived.Test.YtemiajjjhhofaabQl
namespace Go.Proofs.Ytemiajjjhhofaab
open Go.RowKit Go.PlainAid

/-- What a call on a list leaves as it was: all but the list and what is new. -/
structure Goes (w w' : World) (l R : Nat) (ns ns' : List Nd) : Prop where
  stay : Stay w w' (l :: R :: fpN ns)
  new : ∀ k ∈ fpN ns', k ∈ fpN ns ∨ w.heap.size ≤ k
theorem Goes.of_below {w w' : World} (h : Below w.heap.size w w') (l R : Nat) (ns : List Nd) : Goes w w' l R ns ns := ⟨Stay.of_below h _, fun _ hk => .inl hk⟩
theorem Goes.refl (w : World) (l R : Nat) (ns : List Nd) : Goes w w l R ns ns := Goes.of_below (Below.refl _ _) l R ns
theorem Goes.trans {w w1 w2 : World} {l R : Nat} {ns ns1 ns2 : List Nd} (h : Goes w w1 l R ns ns1) (k : Goes w1 w2 l R ns1 ns2) : Goes w w2 l R ns ns2 := by
  refine ⟨h.stay.trans k.stay ?_, ?_⟩
  · intro i hi
    simp only [List.mem_cons] at hi ⊢
    rcases hi with rfl | rfl | hi
    · simp
    · simp
    · exact (h.new i hi).imp (fun h => .inr (.inr h)) id
  · intro i hi
    rcases k.new i hi with h1 | h1
    · exact h.new i h1
    · exact .inr (Nat.le_trans h.stay.size h1)
theorem Goes.first {w w1 w2 : World} {l R : Nat} {ns ns' : List Nd} (hb : Below w.heap.size w w1) (h : Goes w1 w2 l R ns ns') : Goes w w2 l R ns ns' := (Goes.of_below hb l R ns).trans h

theorem fp_perm (l R : Nat) (l1 l2 : List Nd) (d : Nd) : (l :: R :: fpN (l1 ++ d :: l2)).Perm (d.fp ++ (l :: R :: fpN (l1 ++ l2))) := by
  rw [fpN_append, fpN_cons, fpN_append]
  have h1 : (fpN l1 ++ (d.fp ++ fpN l2)).Perm (d.fp ++ (fpN l1 ++ fpN l2)) := by
    rw [← List.append_assoc, ← List.append_assoc]; exact List.perm_append_comm.append_right _
  refine ((h1.cons R).cons l).trans ?_
  generalize fpN l1 ++ fpN l2 = E
  have h2 : ([l, R] ++ (d.fp ++ E)).Perm (d.fp ++ ([l, R] ++ E)) := by
    rw [← List.append_assoc, ← List.append_assoc]; exact List.perm_append_comm.append_right _
  exact h2
/-- A node's blocks are no others'. -/
theorem Lst.apart {w : World} {B l R most cnt : Nat} {l1 l2 : List Nd} {d : Nd} (h : Lst w B l R most cnt (l1 ++ d :: l2)) : d.fp.Nodup ∧ (l :: R :: fpN (l1 ++ l2)).Nodup ∧ ∀ k ∈ l :: R :: fpN (l1 ++ l2), k ∉ d.fp := by
  have := (fp_perm l R l1 l2 d).nodup_iff.1 h.num
  rw [List.nodup_append] at this
  exact ⟨this.1, this.2.1, fun k hk hd => this.2.2 k hd k hk rfl⟩
theorem mem_mid {l1 l2 : List Nd} {e : Nd} (h : e ∈ l1 ++ l2) (d : Nd) : e ∈ l1 ++ d :: l2 := by
  rcases List.mem_append.1 h with h | h
  · exact List.mem_append_left _ h
  · exact List.mem_append_right _ (List.mem_cons_of_mem _ h)
theorem mem_or {l1 l2 : List Nd} {e d : Nd} (h : e ∈ l1 ++ d :: l2) : e = d ∨ e ∈ l1 ++ l2 := by
  rcases List.mem_append.1 h with h | h
  · exact .inr (List.mem_append_left _ h)
  · rcases List.mem_cons.1 h with h | h
    · exact .inl h
    · exact .inr (List.mem_append_right _ h)
theorem mem_sub {l R k : Nat} {l1 l2 : List Nd} {e : Nd} (he : e ∈ l1 ++ l2) (hk : k ∈ e.fp) : k ∈ l :: R :: fpN (l1 ++ l2) := List.mem_cons_of_mem _ (List.mem_cons_of_mem _ (mem_fpN he hk))

/-- Another node in the place of one, at the same address. -/
theorem Lst.put {w w' : World} {B l R most cnt : Nat} {l1 l2 : List Nd} {d d' : Nd} (h : Lst w B l R most cnt (l1 ++ d :: l2)) (ha : d'.a = d.a) {M : List Nat} (hs : Stay w w' M) (hM : ∀ k ∈ M, k ∈ d.fp)
    (hc : ∀ o, o = 1 ∨ o = 2 → w'.cell? ⟨d.a, o, none⟩ = w.cell? ⟨d.a, o, none⟩) (hN : Nod w' B d') (hnd : d'.fp.Nodup) (hnew : ∀ k ∈ d'.fp, k ∈ d.fp ∨ w.heap.size ≤ k) : Lst w' B l R most cnt (l1 ++ d' :: l2) ∧ Goes w w' l R (l1 ++ d :: l2) (l1 ++ d' :: l2) := by
  obtain ⟨hn1, hn2, hn3⟩ := h.apart
  have hlt : ∀ k ∈ l :: R :: fpN (l1 ++ l2), k < w.heap.size := fun k hk => (h.fplt k ((fp_perm l R l1 l2 d).mem_iff.2 (List.mem_append_right _ hk))).2
  have hbk : ∀ k ∈ l :: R :: fpN (l1 ++ l2), w'.heap[k]? = w.heap[k]? := fun k hk => hs.block k (hlt k hk) (fun hm => hn3 k hk (hM k hm))
  have hadr : adr (l1 ++ d' :: l2) = adr (l1 ++ d :: l2) := by rw [adr_append, adr_append, adr_cons, adr_cons, ha]
  have hcell : ∀ k ∈ R :: adr (l1 ++ d :: l2), ∀ o, o = 1 ∨ o = 2 → w'.cell? ⟨k, o, none⟩ = w.cell? ⟨k, o, none⟩ := by
    intro k hk o ho
    by_cases hkd : k = d.a
    · subst hkd; exact hc o ho
    · refine World.cell?_of_block (hbk k ?_)
      rcases List.mem_cons.1 hk with rfl | hk
      · simp
      · obtain ⟨e, he, rfl⟩ := List.mem_map.1 hk
        rcases mem_or he with rfl | he
        · exact absurd rfl hkd
        · exact mem_sub he (by simp [Nd.fp])
  refine ⟨⟨by rw [hbk l (by simp)]; exact h.blk, by rw [hbk R (by simp)]; exact h.ring, ?_, ?_, ?_, h.lowl, h.lowR⟩, ?_, ?_⟩
  · rw [hadr]
    refine Adj_congr _ (fun k hk => hcell k ?_ 2 (.inr rfl)) (fun k hk => hcell k ?_ 1 (.inl rfl)) h.adj
    · rw [List.dropLast_concat] at hk; exact hk
    · simp only [List.cons_append, List.tail_cons, List.mem_append, List.mem_singleton] at hk
      rcases hk with hk | rfl
      · exact List.mem_cons_of_mem _ hk
      · simp
  · intro e he
    rcases mem_or he with rfl | he
    · exact hN
    · exact (h.nod e (mem_mid he d)).stay hs (fun k hk hm => hn3 k (mem_sub he hk) (hM k hm))
  · refine (fp_perm l R l1 l2 d').nodup_iff.2 (List.nodup_append.2 ⟨hnd, hn2, ?_⟩)
    intro k hk j hj e
    subst e
    rcases hnew k hk with h1 | h1
    · exact hn3 k hj h1
    · have := hlt k hj; omega
  · refine hs.mono fun k hk => ?_
    exact (fp_perm l R l1 l2 d).mem_iff.2 (List.mem_append_left _ (hM k hk))
  · intro k hk
    rw [fpN_append, fpN_cons] at hk ⊢
    simp only [List.mem_append] at hk ⊢
    rcases hk with hk | hk | hk
    · exact .inl (.inl hk)
    · exact (hnew k hk).imp (fun h => .inr (.inl h)) id
    · exact .inl (.inr (.inr hk))

/-- A pack has turned. -/
theorem Lst.turn {w w' : World} {B l R most cnt : Nat} {l1 l2 : List Nd} {d : Nd} (h : Lst w B l R most cnt (l1 ++ d :: l2)) {r' : Option Addr} {n' c' : Nat} {ls' : List ByteArray} (hm : Moves w w' d.p d.r) (hp : Pk w' B d.p r' n' c' ls') (hw : Went w d.r r') (hf : Fit ls') (hn : n' ≤ 65536) :
    Lst w' B l R most cnt (l1 ++ ⟨d.a, d.p, r', n', c', ls'⟩ :: l2) ∧ Goes w w' l R (l1 ++ d :: l2) (l1 ++ ⟨d.a, d.p, r', n', c', ls'⟩ :: l2) := by
  obtain ⟨hn1, -, -⟩ := h.apart
  have hd := h.nod d (by simp)
  have h1 : d.a ∉ d.p :: (d.r.map (·.block)).toList := (List.nodup_cons.1 hn1).1
  have h2 := List.nodup_cons.1 (List.nodup_cons.1 hn1).2
  have hs := Stay.of_moves hm
  have hbl : w'.heap[d.a]? = w.heap[d.a]? := hs.block d.a hd.lt h1
  have hnw : ∀ k ∈ (r'.map (·.block)).toList, k ∈ (d.r.map (·.block)).toList ∨ w.heap.size ≤ k := fun k hk => by
    rw [Option.mem_toList] at hk ⊢
    exact hw.blk hk
  refine h.put (d' := ⟨d.a, d.p, r', n', c', ls'⟩) rfl hs (fun k hk => List.mem_cons_of_mem _ hk) (fun o _ => World.cell?_of_block hbl) ⟨by rw [hbl]; exact hd.blk, hp, hf, hn, hd.low⟩ ?_ ?_
  · show (d.a :: d.p :: (r'.map (·.block)).toList).Nodup
    have hlt := hd.fplt
    have ha := (hlt d.a (by simp [Nd.fp])).2
    have hpp := (hlt d.p (by simp [Nd.fp])).2
    refine List.nodup_cons.2 ⟨fun hm => ?_, List.nodup_cons.2 ⟨fun hm => ?_, ?_⟩⟩
    · rcases List.mem_cons.1 hm with e | hm
      · exact h1 (by rw [e]; simp)
      · rcases hnw _ hm with h3 | h3
        · exact h1 (List.mem_cons_of_mem _ h3)
        · omega
    · rcases hnw _ hm with h3 | h3
      · exact h2.1 h3
      · omega
    · cases r' <;> simp
  · intro k hk
    rcases List.mem_cons.1 hk with rfl | hk
    · exact .inl (by simp [Nd.fp])
    rcases List.mem_cons.1 hk with rfl | hk
    · exact .inl (by simp [Nd.fp])
    · exact (hnw k hk).imp (fun h => List.mem_cons_of_mem _ (List.mem_cons_of_mem _ h)) id

theorem heap_set {w : World} {b o : Nat} {cs : Array Value} {t : TypeId} (h : w.heap[b]? = some (.cells cs t (0, 0))) (v : Value) : (w.setCell ⟨b, o, none⟩ v).heap[b]? = some (.cells (cs.setIfInBounds o v) t (0, 0)) := by
  simp [World.setCell, Array.getElem?_modify, h]
theorem heap_other {w : World} {b o k : Nat} (v : Value) (h : k ≠ b) : (w.setCell ⟨b, o, none⟩ v).heap[k]? = w.heap[k]? := Below.heap_setCell _ _ _ _ h

/-- The count has turned. -/
theorem Lst.count {w : World} {B l R most cnt : Nat} {ns : List Nd} (h : Lst w B l R most cnt ns) (c' : Nat) : Lst (w.setCell ⟨l, 1, none⟩ (.int .i64 (c' : Nat))) B l R most c' ns ∧ Goes w (w.setCell ⟨l, 1, none⟩ (.int .i64 (c' : Nat))) l R ns ns := by
  have hs : Stay w (w.setCell ⟨l, 1, none⟩ (.int .i64 (c' : Nat))) [l] := Stay.set
  have hne : ∀ k ∈ R :: fpN ns, k ≠ l := fun k hk e => (List.nodup_cons.1 h.num).1 (e ▸ hk)
  have hbk : ∀ k ∈ R :: fpN ns, (w.setCell ⟨l, 1, none⟩ (.int .i64 (c' : Nat))).heap[k]? = w.heap[k]? := fun k hk => heap_other _ (hne k hk)
  have hcell : ∀ k ∈ R :: adr ns, ∀ o, (w.setCell ⟨l, 1, none⟩ (.int .i64 (c' : Nat))).cell? ⟨k, o, none⟩ = w.cell? ⟨k, o, none⟩ := fun k hk o => World.cell?_of_block (hbk k (by
    rcases List.mem_cons.1 hk with rfl | hk
    · simp
    · exact List.mem_cons_of_mem _ (adr_fpN hk)))
  refine ⟨⟨by rw [heap_set h.blk]; rfl, by rw [hbk R (by simp)]; exact h.ring, ?_, fun d hd => (h.nod d hd).stay hs (fun k hk => by simpa using hne k (List.mem_cons_of_mem _ (mem_fpN hd hk))), h.num, h.lowl, h.lowR⟩, hs.mono (by simp), fun _ hk => .inl hk⟩
  refine Adj_congr _ (fun k hk => hcell k ?_ 2) (fun k hk => hcell k ?_ 1) h.adj
  · rw [List.dropLast_concat] at hk; exact hk
  · simp only [List.cons_append, List.tail_cons, List.mem_append, List.mem_singleton] at hk
    rcases hk with hk | rfl
    · exact List.mem_cons_of_mem _ hk
    · simp

/-- A node's block with another neighbour is a node's block. -/
theorem nb_set {w : World} {k q o : Nat} {P v : Value} (h : ∃ x y, w.heap[k]? = some (.cells #[P, x, y] 71 (0, 0))) (ho : o = 1 ∨ o = 2) : ∃ x y, (w.setCell ⟨q, o, none⟩ v).heap[k]? = some (.cells #[P, x, y] 71 (0, 0)) := by
  obtain ⟨x, y, e⟩ := h
  by_cases hk : k = q
  · subst hk
    rw [heap_set e]
    rcases ho with rfl | rfl
    · exact ⟨v, y, rfl⟩
    · exact ⟨x, v, rfl⟩
  · exact ⟨x, y, by rw [heap_other _ hk]; exact e⟩
theorem nb_cell {w : World} {k : Nat} {P : Value} (h : ∃ x y, w.heap[k]? = some (.cells #[P, x, y] 71 (0, 0))) : (∃ x, w.cell? ⟨k, 1, none⟩ = some x) ∧ ∃ y, w.cell? ⟨k, 2, none⟩ = some y := by
  obtain ⟨x, y, e⟩ := h
  exact ⟨⟨x, by simp [World.cell?, e]⟩, ⟨y, by simp [World.cell?, e]⟩⟩
theorem Lst.nb {w : World} {B l R most cnt : Nat} {ns : List Nd} (h : Lst w B l R most cnt ns) {k : Nat} (hk : k ∈ R :: adr ns) : ∃ P x y, w.heap[k]? = some (.cells #[P, x, y] 71 (0, 0)) := by
  rcases List.mem_cons.1 hk with rfl | hk
  · exact ⟨_, h.ring⟩
  · obtain ⟨d, hd, rfl⟩ := List.mem_map.1 hk
    exact ⟨_, (h.nod d hd).blk⟩

/-- A world in which some nodes' neighbours have turned: all else is as it was. -/
theorem Lst.rewire {w w' : World} {B l R most cnt : Nat} {ns ns' : List Nd} {M : List Nat} (h : Lst w B l R most cnt ns) (hs : Stay w w' M) (hM : ∀ k ∈ M, k ∈ R :: adr ns)
    (hb : ∀ k ∈ R :: adr ns, ∀ P, (∃ x y, w.heap[k]? = some (.cells #[P, x, y] 71 (0, 0))) → ∃ x y, w'.heap[k]? = some (.cells #[P, x, y] 71 (0, 0)))
    (hadj : Adj w' (R :: adr ns' ++ [R])) (hn : ∀ d ∈ ns', d ∈ ns ∨ Nod w' B d) (hnum : (l :: R :: fpN ns').Nodup) : Lst w' B l R most cnt ns' := by
  have hlM : l ∉ M := fun hm => (h.adlt l (hM l hm)).2 rfl
  refine ⟨by rw [hs.block l h.lt hlM]; exact h.blk, hb R (by simp) _ h.ring, hadj, fun d hd => ?_, hnum, h.lowl, h.lowR⟩
  rcases hn d hd with hd2 | hd2
  · have hN := h.nod d hd2
    obtain ⟨a, c, e⟩ := List.append_of_mem hd2
    subst e
    obtain ⟨k1, k2, k3⟩ := h.apart
    have hfar : ∀ k ∈ d.p :: (d.r.map (·.block)).toList, k ∉ M := by
      intro k hk hm
      rcases List.mem_cons.1 (hM k hm) with e | hm2
      · subst e
        exact k3 k (by simp) (List.mem_cons_of_mem _ hk)
      · obtain ⟨e, he, rfl⟩ := List.mem_map.1 hm2
        rcases mem_or he with rfl | he
        · exact (List.nodup_cons.1 k1).1 hk
        · exact k3 e.a (mem_sub he (by simp [Nd.fp])) (List.mem_cons_of_mem _ hk)
    refine hN.turn (hs.block d.p hN.pk.lt (hfar _ (by simp))) (fun k hk => hs.block k (hN.fplt k (List.mem_cons_of_mem _ (List.mem_cons_of_mem _ hk))).2 (hfar k (List.mem_cons_of_mem _ hk))) (hb d.a (List.mem_cons_of_mem _ (List.mem_map_of_mem hd2)) _ hN.blk)
  · exact hd2
end Go.Proofs.Ytemiajjjhhofaab
