/-
  link and unlink: a node comes into the ring, or leaves it.
-/
import Derived.Test.YtemiajjjhhofaabQl2
namespace Go.Proofs.Ytemiajjjhhofaab
open Go.RowKit Go.PlainAid

theorem cell_ne {w : World} {q o k j : Nat} {v : Value} (h : ¬ (k = q ∧ j = o)) : (w.setCell ⟨q, o, none⟩ v).cell? ⟨k, j, none⟩ = w.cell? ⟨k, j, none⟩ := by
  apply World.cell?_setCell_other
  intro e
  injection e with e1 e2
  exact h ⟨e1.symm, e2.symm⟩
theorem cell_eq {w : World} {q o : Nat} {v x : Value} (h : w.cell? ⟨q, o, none⟩ = some x) : (w.setCell ⟨q, o, none⟩ v).cell? ⟨q, o, none⟩ = some v := by
  apply World.cell?_setCell_same
  exact h
theorem nod_of_snoc {X : List Nat} {u : Nat} {A : List Nat} (h : A = X ++ [u]) (hn : A.Nodup) : u ∉ X := by
  subst h
  rw [List.nodup_append] at hn
  exact fun hm => hn.2.2 u hm u (by simp) rfl
/-- The two neighbours at a gap. -/
theorem gap_split (R : Nat) (l1 l2 : List Nd) (hn : (R :: adr (l1 ++ l2)).Nodup) : ∃ X Y, R :: adr l1 = X ++ [laA R l1] ∧ adr l2 ++ [R] = hdA R l2 :: Y ∧ laA R l1 ∉ X ∧ laA R l1 ∉ adr l2 ∧ hdA R l2 ∉ Y ∧ hdA R l2 ∉ adr l1 := by
  obtain ⟨X, hX⟩ := fore_ex R l1
  obtain ⟨Y, hY⟩ := back_ex R l2
  rw [adr_append] at hn
  have h1 : ((R :: adr l1) ++ adr l2).Nodup := hn
  have h2 : (adr l1 ++ (adr l2 ++ [R])).Nodup := by
    rw [← List.append_assoc]
    exact ((List.perm_append_singleton R (adr l1 ++ adr l2)).nodup_iff).2 hn
  rw [List.nodup_append] at h1 h2
  refine ⟨X, Y, hX, hY, nod_of_snoc hX h1.1, fun hm => h1.2.2 _ (laA_mem R l1) _ hm rfl, ?_, fun hm => h2.2.2 _ hm (hdA R l2) (by rw [hY]; simp) rfl⟩
  have h3 := h2.2.1
  rw [hY] at h3
  exact (List.nodup_cons.1 h3).1
theorem ring_row (R : Nat) (l1 l2 : List Nd) : R :: adr (l1 ++ l2) ++ [R] = (R :: adr l1) ++ (adr l2 ++ [R]) := by rw [adr_append]; simp

/-- Two neighbours are made known to each other. -/
theorem Adj_meet {w w' : World} {X Y : List Nat} {u v : Nat} (h1 : Adj w (X ++ [u])) (h2 : Adj w (v :: Y)) (hu : w'.cell? ⟨u, 2, none⟩ = some (ptr v)) (hv : w'.cell? ⟨v, 1, none⟩ = some (ptr u))
    (hX2 : ∀ k ∈ X, w'.cell? ⟨k, 2, none⟩ = w.cell? ⟨k, 2, none⟩) (hX1 : ∀ k ∈ (X ++ [u]).tail, w'.cell? ⟨k, 1, none⟩ = w.cell? ⟨k, 1, none⟩)
    (hY2 : ∀ k ∈ (v :: Y).dropLast, w'.cell? ⟨k, 2, none⟩ = w.cell? ⟨k, 2, none⟩) (hY1 : ∀ k ∈ Y, w'.cell? ⟨k, 1, none⟩ = w.cell? ⟨k, 1, none⟩) : Adj w' (X ++ u :: v :: Y) := by
  rw [Adj_append]
  exact ⟨Adj_congr _ (by rw [List.dropLast_concat]; exact hX2) hX1 h1, ⟨hu, hv⟩, Adj_congr _ hY2 hY1 h2⟩

/-- What a ring is behind link. -/
theorem Lst.ins {w : World} {B l R most cnt : Nat} {l1 l2 : List Nd} (h : Lst w B l R most cnt (l1 ++ l2)) {p : Nat} {r : Option Addr} {n c : Nat} {ls : List ByteArray} (hP : Pk w B p r n c ls) (hf : Fit ls) (hn : n ≤ 65536) (hnd : (p :: (r.map (·.block)).toList).Nodup) (hdis : ∀ k ∈ p :: (r.map (·.block)).toList, k ∉ l :: R :: fpN (l1 ++ l2)) {w' : World}
    (hw : w' = ((w.alloc (.cells #[ptr p, ptr (laA R l1), ptr (hdA R l2)] 71)).setCell ⟨hdA R l2, 1, none⟩ (ptr w.heap.size)).setCell ⟨laA R l1, 2, none⟩ (ptr w.heap.size)) :
    Lst w' B l R most cnt (l1 ++ ⟨w.heap.size, p, r, n, c, ls⟩ :: l2) ∧ Stay w w' [laA R l1, hdA R l2] := by
  have hu : laA R l1 ∈ R :: adr (l1 ++ l2) := by
    rw [adr_append]
    have := laA_mem R l1
    simp only [List.mem_cons, List.mem_append] at this ⊢
    exact this.imp id .inl
  have hv : hdA R l2 ∈ R :: adr (l1 ++ l2) := by
    rw [adr_append]
    have := hdA_mem R l2
    simp only [List.mem_cons, List.mem_append] at this ⊢
    exact this.imp id .inr
  obtain ⟨X, Y, hX, hY, hn1, hn2, hn3, hn4⟩ := gap_split R l1 l2 h.numA
  have hadj := h.adj
  rw [ring_row, hX, hY] at hadj
  have hlt := fun k hk => (h.adlt k hk).1
  have hnbu := h.nb hu
  have hnbv := h.nb hv
  generalize laA R l1 = u at *
  generalize hdA R l2 = v at *
  have hub := hlt u hu
  have hvb := hlt v hv
  have hX' : X ++ [u] ++ v :: Y = X ++ u :: (v :: Y) := by simp
  rw [hX', Adj_append] at hadj
  obtain ⟨hadj1, hadj2⟩ := hadj
  have hadj2' : Adj w (v :: Y) := hadj2.2
  generalize hG : w.heap.size = G at *
  obtain ⟨w1, hw1⟩ : ∃ w1, w.alloc (.cells #[ptr p, ptr u, ptr v] 71) = w1 := ⟨_, rfl⟩
  rw [hw1] at hw
  have hb1 : Below G w w1 := by rw [← hw1, ← hG]; exact alloc_below w _
  have hnew1 : w1.heap[G]? = some (.cells #[ptr p, ptr u, ptr v] 71 (0, 0)) := by rw [← hw1, ← hG]; exact heap_alloc_new w _
  have hold1 : ∀ k, k < G → w1.heap[k]? = w.heap[k]? := hb1.block
  have hs1 : Stay w w1 [u, v] := ⟨hb1.os, hb1.tape, hb1.output, hb1.size, fun k hk _ => hold1 k (hG ▸ hk)⟩
  have hs : Stay w w' [u, v] := by
    subst hw
    refine (hs1.trans (Stay.set (q := v) (o := 1) (v := ptr G)) (by simp)).trans (Stay.set (q := u) (o := 2) (v := ptr G)) (by simp)
  have hcell : ∀ k o, ¬ (k = v ∧ o = 1) → ¬ (k = u ∧ o = 2) → w'.cell? ⟨k, o, none⟩ = w1.cell? ⟨k, o, none⟩ := by
    intro k o h1 h2
    subst hw
    rw [cell_ne h2, cell_ne h1]
  have hcold : ∀ k o, k < G → w1.cell? ⟨k, o, none⟩ = w.cell? ⟨k, o, none⟩ := fun k o hk => World.cell?_of_block (hold1 k hk)
  have hcv : w'.cell? ⟨v, 1, none⟩ = some (ptr G) := by
    subst hw
    rw [cell_ne (fun e => absurd e.2 (by decide))]
    obtain ⟨P, hP⟩ := hnbv
    obtain ⟨x, hx⟩ := (nb_cell hP).1
    exact cell_eq (x := x) (by rw [hcold v 1 hvb]; exact hx)
  have hcu : w'.cell? ⟨u, 2, none⟩ = some (ptr G) := by
    subst hw
    obtain ⟨P, hP⟩ := hnbu
    obtain ⟨x, hx⟩ := (nb_cell hP).2
    refine cell_eq (x := x) ?_
    rw [cell_ne (fun e => absurd e.2 (by decide)), hcold u 2 hub]; exact hx
  have hne : G ≠ u ∧ G ≠ v := ⟨by omega, by omega⟩
  have hcG : w'.cell? ⟨G, 1, none⟩ = some (ptr u) ∧ w'.cell? ⟨G, 2, none⟩ = some (ptr v) := by
    rw [hcell G 1 (fun e => hne.2 e.1) (fun e => hne.1 e.1), hcell G 2 (fun e => hne.2 e.1) (fun e => hne.1 e.1)]
    simp [World.cell?, hnew1]
  have hmX : ∀ k ∈ X ++ [u], k < G := by
    intro k hk
    rw [← hX] at hk
    refine hlt k ?_
    rw [adr_append]
    simp only [List.mem_cons, List.mem_append] at hk ⊢
    exact hk.imp id .inl
  have hmY : ∀ k ∈ v :: Y, k < G := by
    intro k hk
    rw [← hY] at hk
    refine hlt k ?_
    rw [adr_append]
    simp only [List.mem_cons, List.mem_append, List.not_mem_nil, or_false] at hk ⊢
    rcases hk with hk | hk
    · exact .inr (.inr hk)
    · exact .inl hk
  have htail : (X ++ [u]).tail = adr l1 := by rw [← hX]; rfl
  have hdl : (v :: Y).dropLast = adr l2 := by rw [← hY, List.dropLast_concat]
  have hAdj : Adj w' (R :: adr (l1 ++ ⟨G, p, r, n, c, ls⟩ :: l2) ++ [R]) := by
    have e : R :: adr (l1 ++ ⟨G, p, r, n, c, ls⟩ :: l2) ++ [R] = X ++ u :: G :: v :: Y := by
      rw [adr_append, adr_cons]
      have : R :: (adr l1 ++ G :: adr l2) ++ [R] = (R :: adr l1) ++ G :: (adr l2 ++ [R]) := by simp
      rw [this, hX, hY]; simp
    rw [e, Adj_append]
    refine ⟨Adj_congr (w := w) _ ?_ ?_ hadj1, ⟨hcu, hcG.1⟩, ⟨hcG.2, hcv⟩, Adj_congr (w := w) _ ?_ ?_ hadj2'⟩
    · intro k hk
      rw [List.dropLast_concat] at hk
      rw [hcell k 2 (fun e => absurd e.2 (by decide)) (fun e => hn1 (e.1 ▸ hk)), hcold k 2 (hmX k (by simp [hk]))]
    · intro k hk
      have hk2 : k < G := hmX k (List.mem_of_mem_tail hk)
      rw [htail] at hk
      rw [hcell k 1 (fun e => hn4 (e.1 ▸ hk)) (fun e => absurd e.2 (by decide)), hcold k 1 hk2]
    · intro k hk
      have hk2 : k < G := hmY k ((List.dropLast_sublist _).subset hk)
      rw [hdl] at hk
      rw [hcell k 2 (fun e => absurd e.2 (by decide)) (fun e => hn2 (e.1 ▸ hk)), hcold k 2 hk2]
    · intro k hk
      have hk2 : k < G := hmY k (List.mem_cons_of_mem _ hk)
      rw [hcell k 1 (fun e => hn3 (e.1 ▸ hk)) (fun e => absurd e.2 (by decide)), hcold k 1 hk2]
  refine ⟨h.rewire hs ?_ ?_ hAdj ?_ ?_, hs⟩
  · intro k hk
    simp only [List.mem_cons, List.not_mem_nil, or_false] at hk
    rcases hk with rfl | rfl
    · exact hu
    · exact hv
  · intro k hk P hP
    have hP1 : ∃ x y, w1.heap[k]? = some (.cells #[P, x, y] 71 (0, 0)) := by rw [hold1 k (hlt k hk)]; exact hP
    subst hw
    exact nb_set (nb_set hP1 (.inl rfl)) (.inr rfl)
  · intro d hd
    rcases mem_or hd with rfl | hd
    · refine .inr ⟨⟨ptr u, ptr v, ?_⟩, ?_, hf, hn, ?_⟩
      · show w'.heap[G]? = _
        subst hw
        rw [heap_other _ hne.1, heap_other _ hne.2]
        exact hnew1
      · refine hP.stay hs ?_ ?_
        · intro hm
          refine hdis p (by simp) ?_
          simp only [List.mem_cons, List.not_mem_nil, or_false] at hm
          rcases hm with rfl | rfl
          · exact List.mem_cons_of_mem _ (by
              rcases List.mem_cons.1 hu with e | hu
              · rw [e]; simp
              · exact List.mem_cons_of_mem _ (adr_fpN hu))
          · exact List.mem_cons_of_mem _ (by
              rcases List.mem_cons.1 hv with e | hv
              · rw [e]; simp
              · exact List.mem_cons_of_mem _ (adr_fpN hv))
        · intro k hk hm
          refine hdis k (List.mem_cons_of_mem _ hk) ?_
          simp only [List.mem_cons, List.not_mem_nil, or_false] at hm
          rcases hm with rfl | rfl
          · exact List.mem_cons_of_mem _ (by
              rcases List.mem_cons.1 hu with e | hu
              · rw [e]; simp
              · exact List.mem_cons_of_mem _ (adr_fpN hu))
          · exact List.mem_cons_of_mem _ (by
              rcases List.mem_cons.1 hv with e | hv
              · rw [e]; simp
              · exact List.mem_cons_of_mem _ (adr_fpN hv))
      · show B ≤ G
        have := h.lowl
        have := h.lt
        omega
    · exact .inl hd
  · refine (fp_perm l R l1 l2 _).nodup_iff.2 (List.nodup_append.2 ⟨?_, h.num, ?_⟩)
    · show (G :: p :: (r.map (·.block)).toList).Nodup
      refine List.nodup_cons.2 ⟨fun hm => ?_, hnd⟩
      rcases List.mem_cons.1 hm with e | hm
      · have := hP.lt; omega
      · have := (hP.own.lt G (by rw [Option.mem_toList] at hm; rw [← hm]; cases r <;> rfl)).2
        omega
    · intro k hk j hj e
      subst e
      rcases List.mem_cons.1 hk with rfl | hk
      · have := (h.fplt _ hj).2
        have := hG
        omega
      · exact hdis k hk hj

/-- What a ring is behind unlink. -/
theorem Lst.del {w : World} {B l R most cnt : Nat} {l1 l2 : List Nd} {d : Nd} (h : Lst w B l R most cnt (l1 ++ d :: l2)) {w' : World}
    (hw : w' = (w.setCell ⟨laA R l1, 2, none⟩ (ptr (hdA R l2))).setCell ⟨hdA R l2, 1, none⟩ (ptr (laA R l1))) :
    Lst w' B l R most cnt (l1 ++ l2) ∧ Goes w w' l R (l1 ++ d :: l2) (l1 ++ l2) ∧ w'.cell? ⟨d.a, 1, none⟩ = some (ptr (laA R l1)) ∧ w'.cell? ⟨d.a, 2, none⟩ = some (ptr (hdA R l2)) := by
  have hsplit : l1 ++ d :: l2 = (l1 ++ [d]) ++ l2 := by simp
  have hg1 := (h.gap (l1 := l1) (l2 := d :: l2)).2
  have hg2 := (Lst.gap (l1 := l1 ++ [d]) (l2 := l2) (hsplit ▸ h)).1
  rw [laA_snoc] at hg2
  have hu : laA R l1 ∈ R :: adr (l1 ++ l2) := by
    rw [adr_append]
    have := laA_mem R l1
    simp only [List.mem_cons, List.mem_append] at this ⊢
    exact this.imp id .inl
  have hv : hdA R l2 ∈ R :: adr (l1 ++ l2) := by
    rw [adr_append]
    have := hdA_mem R l2
    simp only [List.mem_cons, List.mem_append] at this ⊢
    exact this.imp id .inr
  have hsub : ∀ k ∈ R :: adr (l1 ++ l2), k ∈ R :: adr (l1 ++ d :: l2) := by
    intro k hk
    rw [adr_append] at hk ⊢
    rw [adr_cons]
    simp only [List.mem_cons, List.mem_append] at hk ⊢
    rcases hk with hk | hk | hk
    · exact .inl hk
    · exact .inr (.inl hk)
    · exact .inr (.inr (.inr hk))
  have hA := h.numA
  have hperm : (R :: adr (l1 ++ d :: l2)).Perm (d.a :: R :: adr (l1 ++ l2)) := by
    rw [adr_append, adr_cons, adr_append]
    exact (List.perm_middle.cons R).trans (List.Perm.swap _ _ _)
  have hA2 := hperm.nodup_iff.1 hA
  rw [List.nodup_cons] at hA2
  obtain ⟨X, Y, hX, hY, hn1, hn2, hn3, hn4⟩ := gap_split R l1 l2 hA2.2
  have hadj := h.adj
  have hrow : R :: adr (l1 ++ d :: l2) ++ [R] = (X ++ [laA R l1]) ++ d.a :: hdA R l2 :: Y := by
    rw [adr_append, adr_cons, ← hX, ← hY]; simp
  rw [hrow] at hadj
  have hnbu := h.nb (hsub _ hu)
  have hnbv := h.nb (hsub _ hv)
  have hdu : d.a ≠ laA R l1 := fun e => hA2.1 (e ▸ hu)
  have hdv : d.a ≠ hdA R l2 := fun e => hA2.1 (e ▸ hv)
  generalize laA R l1 = u at *
  generalize hdA R l2 = v at *
  have hX' : X ++ [u] ++ d.a :: v :: Y = X ++ u :: (d.a :: v :: Y) := by simp
  rw [hX', Adj_append] at hadj
  obtain ⟨hadj1, hadj2⟩ := hadj
  have hadj2' : Adj w (v :: Y) := hadj2.2.2
  have hs : Stay w w' [u, v] := by
    subst hw
    exact (((Stay.set (q := u) (o := 2) (v := ptr v)).mono (by simp)).trans (Stay.set (q := v) (o := 1) (v := ptr u)) (by simp) : Stay w _ [u, v])
  have hcell : ∀ k o, ¬ (k = u ∧ o = 2) → ¬ (k = v ∧ o = 1) → w'.cell? ⟨k, o, none⟩ = w.cell? ⟨k, o, none⟩ := by
    intro k o h1 h2
    subst hw
    rw [cell_ne h2, cell_ne h1]
  have hcu : w'.cell? ⟨u, 2, none⟩ = some (ptr v) := by
    subst hw
    rw [cell_ne (fun e => absurd e.2 (by decide))]
    obtain ⟨P, hP⟩ := hnbu
    obtain ⟨x, hx⟩ := (nb_cell hP).2
    exact cell_eq (x := x) hx
  have hcv : w'.cell? ⟨v, 1, none⟩ = some (ptr u) := by
    subst hw
    obtain ⟨P, hP⟩ := hnbv
    obtain ⟨x, hx⟩ := (nb_cell hP).1
    refine cell_eq (x := x) ?_
    rw [cell_ne (fun e => absurd e.2 (by decide))]; exact hx
  have htail : (X ++ [u]).tail = adr l1 := by rw [← hX]; rfl
  have hdl : (v :: Y).dropLast = adr l2 := by rw [← hY, List.dropLast_concat]
  have hAdj : Adj w' (R :: adr (l1 ++ l2) ++ [R]) := by
    rw [ring_row, hX, hY]
    have e : X ++ [u] ++ v :: Y = X ++ u :: v :: Y := by simp
    rw [e]
    refine Adj_meet hadj1 hadj2' hcu hcv ?_ ?_ ?_ ?_
    · exact fun k hk => hcell k 2 (fun e => hn1 (e.1 ▸ hk)) (fun e => absurd e.2 (by decide))
    · intro k hk
      rw [htail] at hk
      exact hcell k 1 (fun e => absurd e.2 (by decide)) (fun e => hn4 (e.1 ▸ hk))
    · intro k hk
      rw [hdl] at hk
      exact hcell k 2 (fun e => hn2 (e.1 ▸ hk)) (fun e => absurd e.2 (by decide))
    · exact fun k hk => hcell k 1 (fun e => absurd e.2 (by decide)) (fun e => hn3 (e.1 ▸ hk))
  have hMem : ∀ k ∈ [u, v], k ∈ R :: adr (l1 ++ d :: l2) := by
    intro k hk
    simp only [List.mem_cons, List.not_mem_nil, or_false] at hk
    rcases hk with rfl | rfl
    · exact hsub _ hu
    · exact hsub _ hv
  refine ⟨h.rewire hs hMem ?_ hAdj (fun e he => .inl (mem_mid he d)) h.apart.2.1, ⟨hs.mono ?_, ?_⟩, ?_, ?_⟩
  · intro k hk P hP
    subst hw
    exact nb_set (nb_set hP (.inr rfl)) (.inl rfl)
  · intro k hk
    rcases List.mem_cons.1 (hMem k hk) with e | h1
    · rw [e]; simp
    · exact List.mem_cons_of_mem _ (List.mem_cons_of_mem _ (adr_fpN h1))
  · intro k hk
    refine .inl ?_
    rw [fpN_append] at hk ⊢
    rw [fpN_cons]
    simp only [List.mem_append] at hk ⊢
    exact hk.imp id .inr
  · rw [hcell d.a 1 (fun e => hdu e.1) (fun e => hdv e.1)]; exact hg1
  · rw [hcell d.a 2 (fun e => hdu e.1) (fun e => hdv e.1)]; exact hg2

set_option maxRecDepth 100000 in
set_option maxHeartbeats 4000000 in
theorem link_any (B l R most cnt : Nat) (l1 l2 : List Nd) (p : Nat) (r : Option Addr) (n c : Nat) (ls : List ByteArray) (w : World) (h : Lst w B l R most cnt (l1 ++ l2)) (hP : Pk w B p r n c ls) (hf : Fit ls) (hn : n ≤ 65536) (hnd : (p :: (r.map (·.block)).toList).Nodup) (hdis : ∀ k ∈ p :: (r.map (·.block)).toList, k ∉ l :: R :: fpN (l1 ++ l2)) :
    Calls Try.prog 57 #[ptr (laA R l1), ptr p] w fun e w' => e = .returned (.tuple #[]) ∧ ∃ f, w.heap.size ≤ f ∧ Lst w' B l R most cnt (l1 ++ ⟨f, p, r, n, c, ls⟩ :: l2) ∧ Stay w w' (l :: R :: fpN (l1 ++ l2)) := by
  have hE := h.ins hP hf hn hnd hdis rfl
  have HE : Hid (Lst (((w.alloc (.cells #[ptr p, ptr (laA R l1), ptr (hdA R l2)] 71)).setCell ⟨hdA R l2, 1, none⟩ (ptr w.heap.size)).setCell ⟨laA R l1, 2, none⟩ (ptr w.heap.size)) B l R most cnt (l1 ++ ⟨w.heap.size, p, r, n, c, ls⟩ :: l2) ∧ Stay w (((w.alloc (.cells #[ptr p, ptr (laA R l1), ptr (hdA R l2)] 71)).setCell ⟨hdA R l2, 1, none⟩ (ptr w.heap.size)).setCell ⟨laA R l1, 2, none⟩ (ptr w.heap.size)) (l :: R :: fpN (l1 ++ l2))) := ⟨hE.1, hE.2.mono (by
    intro k hk
    simp only [List.mem_cons, List.not_mem_nil, or_false] at hk
    have h1 := laA_mem R l1
    have h2 := hdA_mem R l2
    rw [fpN_append]
    simp only [List.mem_cons, List.mem_append] at h1 h2 ⊢
    rcases hk with rfl | rfl
    · exact .inr (h1.imp id (fun h => .inl (adr_fpN h)))
    · exact .inr (h2.imp id (fun h => .inr (adr_fpN h))))⟩
  have hu : laA R l1 ∈ R :: adr (l1 ++ l2) := by
    rw [adr_append]
    have := laA_mem R l1
    simp only [List.mem_cons, List.mem_append] at this ⊢
    exact this.imp id .inl
  have hv : hdA R l2 ∈ R :: adr (l1 ++ l2) := by
    rw [adr_append]
    have := hdA_mem R l2
    simp only [List.mem_cons, List.mem_append] at this ⊢
    exact this.imp id .inr
  have hc := h.gap.1
  have hc1 : (w.alloc (.cells #[ptr p, ptr (laA R l1), ptr (hdA R l2)] 71)).cell? ⟨laA R l1, 2, none⟩ = some (ptr (hdA R l2)) := by
    rw [(alloc_below w _).cell (p := ⟨laA R l1, 2, none⟩) (h.adlt _ hu).1]; exact hc
  have hk := h.keep (alloc_below w (.cells #[ptr p, ptr (laA R l1), ptr (hdA R l2)] 71))
  have hf1 := hk.nfrozen hv 1
  obtain ⟨P1, hP1⟩ := hk.nb hv
  obtain ⟨x1, hx1⟩ := (nb_cell hP1).1
  have hf2 := hk.nfrozen hu 2
  have hx2 := hc1
  generalize laA R l1 = u at *
  generalize hdA R l2 = v at *
  have hf3 : ((w.alloc (.cells #[ptr p, ptr u, ptr v] 71)).setCell ⟨v, 1, none⟩ (ptr w.heap.size)).frozen? ⟨u, 2, none⟩ = false := by
    rw [World.frozen?_setCell]; exact hf2
  have hx3 : ((w.alloc (.cells #[ptr p, ptr u, ptr v] 71)).setCell ⟨v, 1, none⟩ (ptr w.heap.size)).cell? ⟨u, 2, none⟩ = some (ptr v) := by
    rw [cell_ne (fun e => absurd e.2 (by decide))]; exact hx2
  clear h hP hf hnd hdis hE hk hu hv hP1
  go_enter Try.func57, Try.ntmps57
  go_wp2
  go_end0
  exact ⟨rfl, w.heap.size, Nat.le_refl _, HE.out⟩

set_option maxRecDepth 100000 in
set_option maxHeartbeats 4000000 in
theorem unlink_any (B l R most cnt : Nat) (l1 l2 : List Nd) (d : Nd) (w : World) (h : Lst w B l R most cnt (l1 ++ d :: l2)) :
    Calls Try.prog 96 #[ptr d.a] w fun e w' => e = .returned (.tuple #[]) ∧ Lst w' B l R most cnt (l1 ++ l2) ∧ Goes w w' l R (l1 ++ d :: l2) (l1 ++ l2) ∧ w'.cell? ⟨d.a, 1, none⟩ = some (ptr (laA R l1)) ∧ w'.cell? ⟨d.a, 2, none⟩ = some (ptr (hdA R l2)) := by
  have hsplit : l1 ++ d :: l2 = (l1 ++ [d]) ++ l2 := by simp
  have hg1 : w.cell? ⟨d.a, 1, none⟩ = some (ptr (laA R l1)) := (h.gap (l1 := l1) (l2 := d :: l2)).2
  have hg2 := (Lst.gap (l1 := l1 ++ [d]) (l2 := l2) (hsplit ▸ h)).1
  rw [laA_snoc] at hg2
  have hu : laA R l1 ∈ R :: adr (l1 ++ d :: l2) := by
    rw [adr_append]
    have := laA_mem R l1
    simp only [List.mem_cons, List.mem_append] at this ⊢
    exact this.imp id .inl
  have hv : hdA R l2 ∈ R :: adr (l1 ++ d :: l2) := by
    rw [adr_append, adr_cons]
    have := hdA_mem R l2
    simp only [List.mem_cons, List.mem_append] at this ⊢
    exact this.imp id (fun h => .inr (.inr h))
  have hA2 := (List.perm_middle (l₁ := R :: adr l1) (a := d.a) (l₂ := adr l2)).nodup_iff.1 (by have := h.numA; rw [adr_append, adr_cons] at this; exact this)
  have hdu : d.a ≠ laA R l1 := fun e => (List.nodup_cons.1 hA2).1 (by rw [e]; exact List.mem_append_left _ (laA_mem R l1))
  have hdv : d.a ≠ hdA R l2 := fun e => (List.nodup_cons.1 hA2).1 (by
    rw [e]
    have := hdA_mem R l2
    simp only [List.mem_cons, List.mem_append] at this ⊢
    rcases this with h | h
    · exact .inl (.inl h)
    · exact .inr h)
  have hb2 : Below w.heap.size w w.drew.drew := below_drewN w 2
  have hk := h.keep hb2
  have hD := hk.del rfl
  have HD : Hid (Lst ((w.drew.setCell ⟨laA R l1, 2, none⟩ (ptr (hdA R l2))).drew.setCell ⟨hdA R l2, 1, none⟩ (ptr (laA R l1))) B l R most cnt (l1 ++ l2) ∧ Goes w.drew.drew ((w.drew.setCell ⟨laA R l1, 2, none⟩ (ptr (hdA R l2))).drew.setCell ⟨hdA R l2, 1, none⟩ (ptr (laA R l1))) l R (l1 ++ d :: l2) (l1 ++ l2) ∧ ((w.drew.setCell ⟨laA R l1, 2, none⟩ (ptr (hdA R l2))).drew.setCell ⟨hdA R l2, 1, none⟩ (ptr (laA R l1))).cell? ⟨d.a, 1, none⟩ = some (ptr (laA R l1)) ∧ ((w.drew.setCell ⟨laA R l1, 2, none⟩ (ptr (hdA R l2))).drew.setCell ⟨hdA R l2, 1, none⟩ (ptr (laA R l1))).cell? ⟨d.a, 2, none⟩ = some (ptr (hdA R l2))) := hD
  have HB2 : Hid (Below w.heap.size w w.drew.drew) := hb2
  obtain ⟨P1, hP1⟩ := h.nb hu
  obtain ⟨x1, hx1⟩ := (nb_cell hP1).2
  obtain ⟨P2, hP2⟩ := h.nb hv
  obtain ⟨x2, hx2⟩ := (nb_cell hP2).1
  have hf1 := h.nfrozen hu 2
  have hf2 := h.nfrozen hv 1
  have hg1d : w.drew.cell? ⟨d.a, 1, none⟩ = some (ptr (laA R l1)) := hg1
  have hg2d : w.drew.cell? ⟨d.a, 2, none⟩ = some (ptr (hdA R l2)) := hg2
  have hx1d : w.drew.cell? ⟨laA R l1, 2, none⟩ = some x1 := hx1
  have hf1d : w.drew.frozen? ⟨laA R l1, 2, none⟩ = false := hf1
  have hW1 : (w.drew.setCell ⟨laA R l1, 2, none⟩ (ptr (hdA R l2))).drew.cell? ⟨d.a, 1, none⟩ = some (ptr (laA R l1)) := (cell_ne (w := w.drew) (fun e => hdu e.1)).trans hg1
  have hW2 : (w.drew.setCell ⟨laA R l1, 2, none⟩ (ptr (hdA R l2))).drew.cell? ⟨d.a, 2, none⟩ = some (ptr (hdA R l2)) := (cell_ne (w := w.drew) (fun e => hdu e.1)).trans hg2
  have hW3 : (w.drew.setCell ⟨laA R l1, 2, none⟩ (ptr (hdA R l2))).drew.cell? ⟨hdA R l2, 1, none⟩ = some x2 := (cell_ne (w := w.drew) (fun e => absurd e.2 (by decide))).trans hx2
  generalize laA R l1 = u at *
  generalize hdA R l2 = v at *
  clear h hk hD hb2 hP1 hP2 hA2 hu hv hsplit
  go_enter Try.func96, Try.ntmps96
  go_wp2_with fail
  go_region
  all_goals
    go_wp2_with fail
    go_region
    all_goals
      go_wp2
      go_end0
      exact ⟨rfl, HD.out.1, HD.out.2.1.first HB2.out, HD.out.2.2⟩
end Go.Proofs.Ytemiajjjhhofaab
