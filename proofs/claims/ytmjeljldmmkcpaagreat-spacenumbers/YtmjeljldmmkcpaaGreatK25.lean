/- Texts that the others stand on. -/
import Derived.Test.YtmjeljldmmkcpaaGreatK24
import Derived.Lib.Builder
set_option maxRecDepth 100000
set_option maxHeartbeats 4000000
namespace Go.Proofs.YtmjeljldmmkcpaaGreat
open Go.RowKit Go.PlainAid
theorem cell_ne {w : World} {q o k j : Nat} {v : Value} (h : ¬ (k = q ∧ j = o)) : (w.setCell ⟨q, o, none⟩ v).cell? ⟨k, j, none⟩ = w.cell? ⟨k, j, none⟩ := by
 apply World.cell?_setCell_other
 intro e
 injection e with e1 e2
 exact h ⟨e1.symm, e2.symm⟩
theorem cell_eq {w : World} {q o : Nat} {v x : Value} (h : w.cell? ⟨q, o, none⟩ = some x) : (w.setCell ⟨q, o, none⟩ v).cell? ⟨q, o, none⟩ = some v := by
 apply World.cell?_setCell_same
 exact h
theorem nod_of_snoc {X : List Nat} {u : Nat} {A : List Nat} (h : A = X ++ [u]) (hn : A.Nodup) : u ∉ X := by
 subst h
 rw [List.nodup_append] at hn
 exact fun hm => hn.2.2 u hm u (by simp) rfl
theorem gap_split (R : Nat) (l1 l2 : List Nd) (hn : (R :: adr (l1 ++ l2)).Nodup) : ∃ X Y, R :: adr l1 = X ++ [laA R l1] ∧ adr l2 ++ [R] = hdA R l2 :: Y ∧ laA R l1 ∉ X ∧ laA R l1 ∉ adr l2 ∧ hdA R l2 ∉ Y ∧ hdA R l2 ∉ adr l1 := by
 obtain ⟨X, hX⟩ := fore_ex R l1
 obtain ⟨Y, hY⟩ := back_ex R l2
 rw [Ao] at hn
 have h1 : ((R :: adr l1) ++ adr l2).Nodup := hn
 have h2 : (adr l1 ++ (adr l2 ++ [R])).Nodup := by
  rw [← List.append_assoc]
  exact ((List.perm_append_singleton R (adr l1 ++ adr l2)).nodup_iff).2 hn
 rw [List.nodup_append] at h1 h2
 refine ⟨X, Y, hX, hY, nod_of_snoc hX h1.1, fun hm => h1.2.2 _ (laA_mem R l1) _ hm rfl, ?_, fun hm => h2.2.2 _ hm (hdA R l2) (by rw [hY]; simp) rfl⟩
 have h3 := h2.2.1
 rw [hY] at h3
 exact (List.nodup_cons.1 h3).1
theorem ring_row (R : Nat) (l1 l2 : List Nd) : R :: adr (l1 ++ l2) ++ [R] = (R :: adr l1) ++ (adr l2 ++ [R]) := by rw [Ao]; simp
theorem Adj_meet {w w' : World} {X Y : List Nat} {u v : Nat} (h1 : Adj w (X ++ [u])) (h2 : Adj w (v :: Y)) (hu : w'.cell? ⟨u, 2, none⟩ = some (ptr v)) (hv : w'.cell? ⟨v, 1, none⟩ = some (ptr u))
  (hX2 : ∀ k ∈ X, w'.cell? ⟨k, 2, none⟩ = w.cell? ⟨k, 2, none⟩) (hX1 : ∀ k ∈ (X ++ [u]).tail, w'.cell? ⟨k, 1, none⟩ = w.cell? ⟨k, 1, none⟩)
  (hY2 : ∀ k ∈ (v :: Y).dropLast, w'.cell? ⟨k, 2, none⟩ = w.cell? ⟨k, 2, none⟩) (hY1 : ∀ k ∈ Y, w'.cell? ⟨k, 1, none⟩ = w.cell? ⟨k, 1, none⟩) : Adj w' (X ++ u :: v :: Y) := by
 rw [Adj_append]
 exact ⟨Adj_congr _ (by rw [List.dropLast_concat]; exact hX2) hX1 h1, ⟨hu, hv⟩, Adj_congr _ hY2 hY1 h2⟩
theorem Lst.ins {w : World} {B l R most cnt : Nat} {l1 l2 : List Nd} (h : Lst w B l R most cnt (l1 ++ l2)) {p : Nat} {r : Option Addr} {n c : Nat} {ls : List BA} (hP : Pk w B p r n c ls) (hf : Fit ls) (hn : n ≤ 65536) (hnd : (p :: (r.map (·.block)).toList).Nodup) (hdis : ∀ k ∈ p :: (r.map (·.block)).toList, k ∉ l :: R :: fpN (l1 ++ l2)) {w' : World}
  (hw : w' = ((w.alloc (.cells #[ptr p, ptr (laA R l1), ptr (hdA R l2)] 151)).setCell ⟨hdA R l2, 1, none⟩ (ptr w.heap.size)).setCell ⟨laA R l1, 2, none⟩ (ptr w.heap.size)) :
  Lst w' B l R most cnt (l1 ++ ⟨w.heap.size, p, r, n, c, ls⟩ :: l2) ∧ Stay w w' [laA R l1, hdA R l2] := by
 have hu : laA R l1 ∈ R :: adr (l1 ++ l2) := by
  rw [Ao]
  have := laA_mem R l1
  simp only [List.mem_cons, List.mem_append] at this ⊢
  exact this.imp id .inl
 have hv : hdA R l2 ∈ R :: adr (l1 ++ l2) := by
  rw [Ao]
  have := hdA_mem R l2
  simp only [List.mem_cons, List.mem_append] at this ⊢
  exact this.imp id .inr
 obtain ⟨X, Y, hX, hY, hn1, hn2, hn3, hn4⟩ := gap_split R l1 l2 h.numA
 have hadj := h.adj
 rw [ring_row, hX, hY] at hadj
 have hlt := fun k hk => (h.adlt k hk).1
 have hnbu := h.nb hu
 have hnbv := h.nb hv
 generalize laA R l1 = u at *
 generalize hdA R l2 = v at *
 have hub := hlt u hu
 have hvb := hlt v hv
 have hX' : X ++ [u] ++ v :: Y = X ++ u :: (v :: Y) := by simp
 rw [hX', Adj_append] at hadj
 obtain ⟨hadj1, hadj2⟩ := hadj
 have hadj2' : Adj w (v :: Y) := hadj2.2
 generalize hG : w.heap.size = G at *
 obtain ⟨w1, hw1⟩ : ∃ w1, w.alloc (.cells #[ptr p, ptr u, ptr v] 151) = w1 := ⟨_, rfl⟩
 rw [hw1] at hw
 have hb1 : Below G w w1 := by rw [← hw1, ← hG]; exact Ac w _
 have hnew1 : w1.heap[G]? = some (.cells #[ptr p, ptr u, ptr v] 151 (0, 0)) := by rw [← hw1, ← hG]; exact heap_alloc_new w _
 have hold1 : ∀ k, k < G → w1.heap[k]? = w.heap[k]? := hb1.block
 have hs1 : Stay w w1 [u, v] := ⟨hb1.os, hb1.tape, hb1.output, hb1.size, fun k hk _ => hold1 k (hG ▸ hk)⟩
 have hs : Stay w w' [u, v] := by
  subst hw
  refine (hs1.trans (Stay.set (q := v) (o := 1) (v := ptr G)) (by simp)).trans (Stay.set (q := u) (o := 2) (v := ptr G)) (by simp)
 have hcell : ∀ k o, ¬ (k = v ∧ o = 1) → ¬ (k = u ∧ o = 2) → w'.cell? ⟨k, o, none⟩ = w1.cell? ⟨k, o, none⟩ := by
  intro k o h1 h2
  subst hw
  rw [cell_ne h2, cell_ne h1]
 have hcold : ∀ k o, k < G → w1.cell? ⟨k, o, none⟩ = w.cell? ⟨k, o, none⟩ := fun k o hk => World.cell?_of_block (hold1 k hk)
 have hcv : w'.cell? ⟨v, 1, none⟩ = some (ptr G) := by
  subst hw
  rw [cell_ne (fun e => absurd e.2 (by decide))]
  obtain ⟨P, hP⟩ := hnbv
  obtain ⟨x, hx⟩ := (nb_cell hP).1
  exact cell_eq (x := x) (by rw [hcold v 1 hvb]; exact hx)
 have hcu : w'.cell? ⟨u, 2, none⟩ = some (ptr G) := by
  subst hw
  obtain ⟨P, hP⟩ := hnbu
  obtain ⟨x, hx⟩ := (nb_cell hP).2
  refine cell_eq (x := x) ?_
  rw [cell_ne (fun e => absurd e.2 (by decide)), hcold u 2 hub]; exact hx
 have hne : G ≠ u ∧ G ≠ v := ⟨by omega, by omega⟩
 have hcG : w'.cell? ⟨G, 1, none⟩ = some (ptr u) ∧ w'.cell? ⟨G, 2, none⟩ = some (ptr v) := by
  rw [hcell G 1 (fun e => hne.2 e.1) (fun e => hne.1 e.1), hcell G 2 (fun e => hne.2 e.1) (fun e => hne.1 e.1)]
  simp [World.cell?, hnew1]
 have hmX : ∀ k ∈ X ++ [u], k < G := by
  intro k hk
  rw [← hX] at hk
  refine hlt k ?_
  rw [Ao]
  simp only [List.mem_cons, List.mem_append] at hk ⊢
  exact hk.imp id .inl
 have hmY : ∀ k ∈ v :: Y, k < G := by
  intro k hk
  rw [← hY] at hk
  refine hlt k ?_
  rw [Ao]
  simp only [List.mem_cons, List.mem_append, List.not_mem_nil, or_false] at hk ⊢
  rcases hk with hk | hk
  ·exact .inr (.inr hk)
  ·exact .inl hk
 have htail : (X ++ [u]).tail = adr l1 := by rw [← hX]; rfl
 have hdl : (v :: Y).dropLast = adr l2 := by rw [← hY, List.dropLast_concat]
 have hAdj : Adj w' (R :: adr (l1 ++ ⟨G, p, r, n, c, ls⟩ :: l2) ++ [R]) := by
  have e : R :: adr (l1 ++ ⟨G, p, r, n, c, ls⟩ :: l2) ++ [R] = X ++ u :: G :: v :: Y := by
   rw [Ao, Ch]
   have : R :: (adr l1 ++ G :: adr l2) ++ [R] = (R :: adr l1) ++ G :: (adr l2 ++ [R]) := by simp
   rw [this, hX, hY]; simp
  rw [e, Adj_append]
  refine ⟨Adj_congr (w := w) _ ?_ ?_ hadj1, ⟨hcu, hcG.1⟩, ⟨hcG.2, hcv⟩, Adj_congr (w := w) _ ?_ ?_ hadj2'⟩
  ·intro k hk
   rw [List.dropLast_concat] at hk
   rw [hcell k 2 (fun e => absurd e.2 (by decide)) (fun e => hn1 (e.1 ▸ hk)), hcold k 2 (hmX k (by simp [hk]))]
  ·intro k hk
   have hk2 : k < G := hmX k (List.mem_of_mem_tail hk)
   rw [htail] at hk
   rw [hcell k 1 (fun e => hn4 (e.1 ▸ hk)) (fun e => absurd e.2 (by decide)), hcold k 1 hk2]
  ·intro k hk
   have hk2 : k < G := hmY k ((List.dropLast_sublist _).subset hk)
   rw [hdl] at hk
   rw [hcell k 2 (fun e => absurd e.2 (by decide)) (fun e => hn2 (e.1 ▸ hk)), hcold k 2 hk2]
  ·intro k hk
   have hk2 : k < G := hmY k (List.mem_cons_of_mem _ hk)
   rw [hcell k 1 (fun e => hn3 (e.1 ▸ hk)) (fun e => absurd e.2 (by decide)), hcold k 1 hk2]
 refine ⟨h.rewire hs ?_ ?_ hAdj ?_ ?_, hs⟩
 ·intro k hk
  simp only [List.mem_cons, List.not_mem_nil, or_false] at hk
  rcases hk with rfl | rfl
  ·exact hu
  ·exact hv
 ·intro k hk P hP
  have hP1 : ∃ x y, w1.heap[k]? = some (.cells #[P, x, y] 151 (0, 0)) := by rw [hold1 k (hlt k hk)]; exact hP
  subst hw
  exact nb_set (nb_set hP1 (.inl rfl)) (.inr rfl)
 ·intro d hd
  rcases mem_or hd with rfl | hd
  ·refine .inr ⟨⟨ptr u, ptr v, ?_⟩, ?_, hf, hn, ?_⟩
   ·show w'.heap[G]? = _
    subst hw
    rw [heap_other _ hne.1, heap_other _ hne.2]
    exact hnew1
   ·refine hP.stay hs ?_ ?_
    ·intro hm
     refine hdis p (by simp) ?_
     simp only [List.mem_cons, List.not_mem_nil, or_false] at hm
     rcases hm with rfl | rfl
     ·exact List.mem_cons_of_mem _ (by
       rcases List.mem_cons.1 hu with e | hu
       ·rw [e]; simp
       ·exact List.mem_cons_of_mem _ (adr_fpN hu))
     ·exact List.mem_cons_of_mem _ (by
       rcases List.mem_cons.1 hv with e | hv
       ·rw [e]; simp
       ·exact List.mem_cons_of_mem _ (adr_fpN hv))
    ·intro k hk hm
     refine hdis k (List.mem_cons_of_mem _ hk) ?_
     simp only [List.mem_cons, List.not_mem_nil, or_false] at hm
     rcases hm with rfl | rfl
     ·exact List.mem_cons_of_mem _ (by
       rcases List.mem_cons.1 hu with e | hu
       ·rw [e]; simp
       ·exact List.mem_cons_of_mem _ (adr_fpN hu))
     ·exact List.mem_cons_of_mem _ (by
       rcases List.mem_cons.1 hv with e | hv
       ·rw [e]; simp
       ·exact List.mem_cons_of_mem _ (adr_fpN hv))
   ·show B ≤ G
    have := h.lowl
    have := h.lt
    omega
  ·exact .inl hd
 ·refine (fp_perm l R l1 l2 _).nodup_iff.2 (List.nodup_append.2 ⟨?_, h.num, ?_⟩)
  ·show (G :: p :: (r.map (·.block)).toList).Nodup
   refine List.nodup_cons.2 ⟨fun hm => ?_, hnd⟩
   rcases List.mem_cons.1 hm with e | hm
   ·have := hP.lt; omega
   ·have := (hP.own.lt G (by rw [Option.mem_toList] at hm; rw [← hm]; cases r <;> rfl)).2
    omega
  ·intro k hk j hj e
   subst e
   rcases List.mem_cons.1 hk with rfl | hk
   ·have := (h.fplt _ hj).2
    have := hG
    omega
   ·exact hdis k hk hj
theorem Lst.del {w : World} {B l R most cnt : Nat} {l1 l2 : List Nd} {d : Nd} (h : Lst w B l R most cnt (l1 ++ d :: l2)) {w' : World}
  (hw : w' = (w.setCell ⟨laA R l1, 2, none⟩ (ptr (hdA R l2))).setCell ⟨hdA R l2, 1, none⟩ (ptr (laA R l1))) :
  Lst w' B l R most cnt (l1 ++ l2) ∧ Goes w w' l R (l1 ++ d :: l2) (l1 ++ l2) ∧ w'.cell? ⟨d.a, 1, none⟩ = some (ptr (laA R l1)) ∧ w'.cell? ⟨d.a, 2, none⟩ = some (ptr (hdA R l2)) := by
 have hsplit : l1 ++ d :: l2 = (l1 ++ [d]) ++ l2 := by simp
 have hg1 := (h.gap (l1 := l1) (l2 := d :: l2)).2
 have hg2 := (Lst.gap (l1 := l1 ++ [d]) (l2 := l2) (hsplit ▸ h)).1
 rw [Cx] at hg2
 have hu : laA R l1 ∈ R :: adr (l1 ++ l2) := by
  rw [Ao]
  have := laA_mem R l1
  simp only [List.mem_cons, List.mem_append] at this ⊢
  exact this.imp id .inl
 have hv : hdA R l2 ∈ R :: adr (l1 ++ l2) := by
  rw [Ao]
  have := hdA_mem R l2
  simp only [List.mem_cons, List.mem_append] at this ⊢
  exact this.imp id .inr
 have hsub : ∀ k ∈ R :: adr (l1 ++ l2), k ∈ R :: adr (l1 ++ d :: l2) := by
  intro k hk
  rw [Ao] at hk ⊢
  rw [Ch]
  simp only [List.mem_cons, List.mem_append] at hk ⊢
  rcases hk with hk | hk | hk
  ·exact .inl hk
  ·exact .inr (.inl hk)
  ·exact .inr (.inr (.inr hk))
 have hA := h.numA
 have hperm : (R :: adr (l1 ++ d :: l2)).Perm (d.a :: R :: adr (l1 ++ l2)) := by
  rw [Ao, Ch, Ao]
  exact (List.perm_middle.cons R).trans (List.Perm.swap _ _ _)
 have hA2 := hperm.nodup_iff.1 hA
 rw [List.nodup_cons] at hA2
 obtain ⟨X, Y, hX, hY, hn1, hn2, hn3, hn4⟩ := gap_split R l1 l2 hA2.2
 have hadj := h.adj
 have hrow : R :: adr (l1 ++ d :: l2) ++ [R] = (X ++ [laA R l1]) ++ d.a :: hdA R l2 :: Y := by
  rw [Ao, Ch, ← hX, ← hY]; simp
 rw [hrow] at hadj
 have hnbu := h.nb (hsub _ hu)
 have hnbv := h.nb (hsub _ hv)
 have hdu : d.a ≠ laA R l1 := fun e => hA2.1 (e ▸ hu)
 have hdv : d.a ≠ hdA R l2 := fun e => hA2.1 (e ▸ hv)
 generalize laA R l1 = u at *
 generalize hdA R l2 = v at *
 have hX' : X ++ [u] ++ d.a :: v :: Y = X ++ u :: (d.a :: v :: Y) := by simp
 rw [hX', Adj_append] at hadj
 obtain ⟨hadj1, hadj2⟩ := hadj
 have hadj2' : Adj w (v :: Y) := hadj2.2.2
 have hs : Stay w w' [u, v] := by
  subst hw
  exact (((Stay.set (q := u) (o := 2) (v := ptr v)).mono (by simp)).trans (Stay.set (q := v) (o := 1) (v := ptr u)) (by simp) : Stay w _ [u, v])
 have hcell : ∀ k o, ¬ (k = u ∧ o = 2) → ¬ (k = v ∧ o = 1) → w'.cell? ⟨k, o, none⟩ = w.cell? ⟨k, o, none⟩ := by
  intro k o h1 h2
  subst hw
  rw [cell_ne h2, cell_ne h1]
 have hcu : w'.cell? ⟨u, 2, none⟩ = some (ptr v) := by
  subst hw
  rw [cell_ne (fun e => absurd e.2 (by decide))]
  obtain ⟨P, hP⟩ := hnbu
  obtain ⟨x, hx⟩ := (nb_cell hP).2
  exact cell_eq (x := x) hx
 have hcv : w'.cell? ⟨v, 1, none⟩ = some (ptr u) := by
  subst hw
  obtain ⟨P, hP⟩ := hnbv
  obtain ⟨x, hx⟩ := (nb_cell hP).1
  refine cell_eq (x := x) ?_
  rw [cell_ne (fun e => absurd e.2 (by decide))]; exact hx
 have htail : (X ++ [u]).tail = adr l1 := by rw [← hX]; rfl
 have hdl : (v :: Y).dropLast = adr l2 := by rw [← hY, List.dropLast_concat]
 have hAdj : Adj w' (R :: adr (l1 ++ l2) ++ [R]) := by
  rw [ring_row, hX, hY]
  have e : X ++ [u] ++ v :: Y = X ++ u :: v :: Y := by simp
  rw [e]
  refine Adj_meet hadj1 hadj2' hcu hcv ?_ ?_ ?_ ?_
  ·exact fun k hk => hcell k 2 (fun e => hn1 (e.1 ▸ hk)) (fun e => absurd e.2 (by decide))
  ·intro k hk
   rw [htail] at hk
   exact hcell k 1 (fun e => absurd e.2 (by decide)) (fun e => hn4 (e.1 ▸ hk))
  ·intro k hk
   rw [hdl] at hk
   exact hcell k 2 (fun e => hn2 (e.1 ▸ hk)) (fun e => absurd e.2 (by decide))
  ·exact fun k hk => hcell k 1 (fun e => absurd e.2 (by decide)) (fun e => hn3 (e.1 ▸ hk))
 have hMem : ∀ k ∈ [u, v], k ∈ R :: adr (l1 ++ d :: l2) := by
  intro k hk
  simp only [List.mem_cons, List.not_mem_nil, or_false] at hk
  rcases hk with rfl | rfl
  ·exact hsub _ hu
  ·exact hsub _ hv
 refine ⟨h.rewire hs hMem ?_ hAdj (fun e he => .inl (mem_mid he d)) h.apart.2.1, ⟨hs.mono ?_, ?_⟩, ?_, ?_⟩
 ·intro k hk P hP
  subst hw
  exact nb_set (nb_set hP (.inr rfl)) (.inl rfl)
 ·intro k hk
  rcases List.mem_cons.1 (hMem k hk) with e | h1
  ·rw [e]; simp
  ·exact List.mem_cons_of_mem _ (List.mem_cons_of_mem _ (adr_fpN h1))
 ·intro k hk
  refine .inl ?_
  rw [fpN_append] at hk ⊢
  rw [fpN_cons]
  simp only [List.mem_append] at hk ⊢
  exact hk.imp id .inr
 ·rw [hcell d.a 1 (fun e => hdu e.1) (fun e => hdv e.1)]; exact hg1
 ·rw [hcell d.a 2 (fun e => hdu e.1) (fun e => hdv e.1)]; exact hg2
theorem link_any (B l R most cnt : Nat) (l1 l2 : List Nd) (p : Nat) (r : Option Addr) (n c : Nat) (ls : List BA) (w : World) (h : Lst w B l R most cnt (l1 ++ l2)) (hP : Pk w B p r n c ls) (hf : Fit ls) (hn : n ≤ 65536) (hnd : (p :: (r.map (·.block)).toList).Nodup) (hdis : ∀ k ∈ p :: (r.map (·.block)).toList, k ∉ l :: R :: fpN (l1 ++ l2)) :
  Calls Tryz.prog 137 #[ptr (laA R l1), ptr p] w fun e w' => e = .returned (.tuple #[]) ∧ ∃ f, w.heap.size ≤ f ∧ Lst w' B l R most cnt (l1 ++ ⟨f, p, r, n, c, ls⟩ :: l2) ∧ Stay w w' (l :: R :: fpN (l1 ++ l2)) := by
 have hE := h.ins hP hf hn hnd hdis rfl
 have HE : Hid (Lst (((w.alloc (.cells #[ptr p, ptr (laA R l1), ptr (hdA R l2)] 151)).setCell ⟨hdA R l2, 1, none⟩ (ptr w.heap.size)).setCell ⟨laA R l1, 2, none⟩ (ptr w.heap.size)) B l R most cnt (l1 ++ ⟨w.heap.size, p, r, n, c, ls⟩ :: l2) ∧ Stay w (((w.alloc (.cells #[ptr p, ptr (laA R l1), ptr (hdA R l2)] 151)).setCell ⟨hdA R l2, 1, none⟩ (ptr w.heap.size)).setCell ⟨laA R l1, 2, none⟩ (ptr w.heap.size)) (l :: R :: fpN (l1 ++ l2))) := ⟨hE.1, hE.2.mono (by
  intro k hk
  simp only [List.mem_cons, List.not_mem_nil, or_false] at hk
  have h1 := laA_mem R l1
  have h2 := hdA_mem R l2
  rw [fpN_append]
  simp only [List.mem_cons, List.mem_append] at h1 h2 ⊢
  rcases hk with rfl | rfl
  ·exact .inr (h1.imp id (fun h => .inl (adr_fpN h)))
  ·exact .inr (h2.imp id (fun h => .inr (adr_fpN h))))⟩
 have hu : laA R l1 ∈ R :: adr (l1 ++ l2) := by
  rw [Ao]
  have := laA_mem R l1
  simp only [List.mem_cons, List.mem_append] at this ⊢
  exact this.imp id .inl
 have hv : hdA R l2 ∈ R :: adr (l1 ++ l2) := by
  rw [Ao]
  have := hdA_mem R l2
  simp only [List.mem_cons, List.mem_append] at this ⊢
  exact this.imp id .inr
 have hc := h.gap.1
 have hc1 : (w.alloc (.cells #[ptr p, ptr (laA R l1), ptr (hdA R l2)] 151)).cell? ⟨laA R l1, 2, none⟩ = some (ptr (hdA R l2)) := by
  rw [(Ac w _).cell (p := ⟨laA R l1, 2, none⟩) (h.adlt _ hu).1]; exact hc
 have hk := h.keep (Ac w (.cells #[ptr p, ptr (laA R l1), ptr (hdA R l2)] 151))
 have hf1 := hk.nfrozen hv 1
 obtain ⟨P1, hP1⟩ := hk.nb hv
 obtain ⟨x1, hx1⟩ := (nb_cell hP1).1
 have hf2 := hk.nfrozen hu 2
 have hx2 := hc1
 generalize laA R l1 = u at *
 generalize hdA R l2 = v at *
 have hf3 : ((w.alloc (.cells #[ptr p, ptr u, ptr v] 151)).setCell ⟨v, 1, none⟩ (ptr w.heap.size)).frozen? ⟨u, 2, none⟩ = false := by
  rw [World.frozen?_setCell]; exact hf2
 have hx3 : ((w.alloc (.cells #[ptr p, ptr u, ptr v] 151)).setCell ⟨v, 1, none⟩ (ptr w.heap.size)).cell? ⟨u, 2, none⟩ = some (ptr v) := by
  rw [cell_ne (fun e => absurd e.2 (by decide))]; exact hx2
 clear h hP hf hnd hdis hE hk hu hv hP1
 go_enter Tryz.func137, Tryz.ntmps137
 go_wp2
 go_end0
 exact ⟨rfl, w.heap.size, Nat.le_refl _, HE.out⟩
theorem unlink_any (B l R most cnt : Nat) (l1 l2 : List Nd) (d : Nd) (w : World) (h : Lst w B l R most cnt (l1 ++ d :: l2)) :
  Calls Tryz.prog 246 #[ptr d.a] w fun e w' => e = .returned (.tuple #[]) ∧ Lst w' B l R most cnt (l1 ++ l2) ∧ Goes w w' l R (l1 ++ d :: l2) (l1 ++ l2) ∧ w'.cell? ⟨d.a, 1, none⟩ = some (ptr (laA R l1)) ∧ w'.cell? ⟨d.a, 2, none⟩ = some (ptr (hdA R l2)) := by
 have hsplit : l1 ++ d :: l2 = (l1 ++ [d]) ++ l2 := by simp
 have hg1 : w.cell? ⟨d.a, 1, none⟩ = some (ptr (laA R l1)) := (h.gap (l1 := l1) (l2 := d :: l2)).2
 have hg2 := (Lst.gap (l1 := l1 ++ [d]) (l2 := l2) (hsplit ▸ h)).1
 rw [Cx] at hg2
 have hu : laA R l1 ∈ R :: adr (l1 ++ d :: l2) := by
  rw [Ao]
  have := laA_mem R l1
  simp only [List.mem_cons, List.mem_append] at this ⊢
  exact this.imp id .inl
 have hv : hdA R l2 ∈ R :: adr (l1 ++ d :: l2) := by
  rw [Ao, Ch]
  have := hdA_mem R l2
  simp only [List.mem_cons, List.mem_append] at this ⊢
  exact this.imp id (fun h => .inr (.inr h))
 have hA2 := (List.perm_middle (l₁ := R :: adr l1) (a := d.a) (l₂ := adr l2)).nodup_iff.1 (by have := h.numA; rw [Ao, Ch] at this; exact this)
 have hdu : d.a ≠ laA R l1 := fun e => (List.nodup_cons.1 hA2).1 (by rw [e]; exact List.mem_append_left _ (laA_mem R l1))
 have hdv : d.a ≠ hdA R l2 := fun e => (List.nodup_cons.1 hA2).1 (by
  rw [e]
  have := hdA_mem R l2
  simp only [List.mem_cons, List.mem_append] at this ⊢
  rcases this with h | h
  ·exact .inl (.inl h)
  ·exact .inr h)
 have hb2 : Below w.heap.size w w.drew.drew := Aa w 2
 have hk := h.keep hb2
 have hD := hk.del rfl
 have HD : Hid (Lst ((w.drew.setCell ⟨laA R l1, 2, none⟩ (ptr (hdA R l2))).drew.setCell ⟨hdA R l2, 1, none⟩ (ptr (laA R l1))) B l R most cnt (l1 ++ l2) ∧ Goes w.drew.drew ((w.drew.setCell ⟨laA R l1, 2, none⟩ (ptr (hdA R l2))).drew.setCell ⟨hdA R l2, 1, none⟩ (ptr (laA R l1))) l R (l1 ++ d :: l2) (l1 ++ l2) ∧ ((w.drew.setCell ⟨laA R l1, 2, none⟩ (ptr (hdA R l2))).drew.setCell ⟨hdA R l2, 1, none⟩ (ptr (laA R l1))).cell? ⟨d.a, 1, none⟩ = some (ptr (laA R l1)) ∧ ((w.drew.setCell ⟨laA R l1, 2, none⟩ (ptr (hdA R l2))).drew.setCell ⟨hdA R l2, 1, none⟩ (ptr (laA R l1))).cell? ⟨d.a, 2, none⟩ = some (ptr (hdA R l2))) := hD
 have HB2 : Hid (Below w.heap.size w w.drew.drew) := hb2
 obtain ⟨P1, hP1⟩ := h.nb hu
 obtain ⟨x1, hx1⟩ := (nb_cell hP1).2
 obtain ⟨P2, hP2⟩ := h.nb hv
 obtain ⟨x2, hx2⟩ := (nb_cell hP2).1
 have hf1 := h.nfrozen hu 2
 have hf2 := h.nfrozen hv 1
 have hg1d : w.drew.cell? ⟨d.a, 1, none⟩ = some (ptr (laA R l1)) := hg1
 have hg2d : w.drew.cell? ⟨d.a, 2, none⟩ = some (ptr (hdA R l2)) := hg2
 have hx1d : w.drew.cell? ⟨laA R l1, 2, none⟩ = some x1 := hx1
 have hf1d : w.drew.frozen? ⟨laA R l1, 2, none⟩ = false := hf1
 have hW1 : (w.drew.setCell ⟨laA R l1, 2, none⟩ (ptr (hdA R l2))).drew.cell? ⟨d.a, 1, none⟩ = some (ptr (laA R l1)) := (cell_ne (w := w.drew) (fun e => hdu e.1)).trans hg1
 have hW2 : (w.drew.setCell ⟨laA R l1, 2, none⟩ (ptr (hdA R l2))).drew.cell? ⟨d.a, 2, none⟩ = some (ptr (hdA R l2)) := (cell_ne (w := w.drew) (fun e => hdu e.1)).trans hg2
 have hW3 : (w.drew.setCell ⟨laA R l1, 2, none⟩ (ptr (hdA R l2))).drew.cell? ⟨hdA R l2, 1, none⟩ = some x2 := (cell_ne (w := w.drew) (fun e => absurd e.2 (by decide))).trans hx2
 generalize laA R l1 = u at *
 generalize hdA R l2 = v at *
 clear h hk hD hb2 hP1 hP2 hA2 hu hv hsplit
 go_enter Tryz.func246, Tryz.ntmps246
 go_wp2_with fail
 go_region
 all_goals
  go_wp2_with fail
  go_region
  all_goals
   go_wp2
   go_end0
   exact ⟨rfl, HD.out.1, HD.out.2.1.first HB2.out, HD.out.2.2⟩
theorem Tryz.infoN : (Tryz.prog.info? 151).map (fun i => i.size) = some 3 := by kernel_rfl
theorem infoN_ex : ∃ j, Tryz.prog.info? 151 = some j ∧ j.size ≠ 0 := by
 have h := Tryz.infoN
 cases hj : Tryz.prog.info? 151 with
 | none => rw [hj] at h; cases h
 | some j =>
  rw [hj] at h
  refine ⟨j, rfl, ?_⟩
  have : j.size = 3 := Option.some.inj h
  omega
theorem neq_same (w : World) (k : Nat) : (binOp .neq 149 (ptr k) (ptr k)).run Tryz.prog w = .ok (.bool false) w := by
 obtain ⟨j, hj, -⟩ := infoN_ex
 exact Lib.run_neq_ptr_same w ⟨k, 0, none⟩ Tryz.underlying149 hj
theorem eql_other {w : World} {k q : Nat} {ca cb : Array Value} {ta tb : TypeId} (h : k ≠ q) (ha : w.heap[k]? = some (.cells ca ta (0, 0))) (hb : w.heap[q]? = some (.cells cb tb (0, 0))) : (binOp .eql 149 (ptr k) (ptr q)).run Tryz.prog w = .ok (.bool false) w := by
 obtain ⟨j, hj, hs⟩ := infoN_ex
 exact run_eql_ptr_other w Tryz.underlying149 hj hs (by intro e; injection e with e1; exact h e1) ha hb
theorem neq_other {w : World} {k q : Nat} {ca cb : Array Value} {ta tb : TypeId} (h : k ≠ q) (ha : w.heap[k]? = some (.cells ca ta (0, 0))) (hb : w.heap[q]? = some (.cells cb tb (0, 0))) : (binOp .neq 149 (ptr k) (ptr q)).run Tryz.prog w = .ok (.bool true) w := by
 obtain ⟨j, hj, hs⟩ := infoN_ex
 have hne : (⟨k, 0, none⟩ : Addr) ≠ ⟨q, 0, none⟩ := by intro e; injection e with e1; exact h e1
 have hh : ∀ d : Nat, (Op.equalIn (d + 1) 149 (ptr k) (ptr q)).run Tryz.prog w = .ok false w := fun d => by
  simp [Op.equalIn, run_underlying Tryz.underlying149, sizeOf, typeInfo, hj, hs, run_sameAddr_other w hne ha hb]
 simp only [binOp]
 simp [Op.equal, Op.maxDepth, hh 9999]
theorem Lst.neq {w : World} {B l R most cnt : Nat} {ns : List Nd} (h : Lst w B l R most cnt ns) {k q : Nat} (hk : k ∈ R :: adr ns) (hq : q ∈ R :: adr ns) (hne : k ≠ q) : (binOp .eql 149 (ptr k) (ptr q)).run Tryz.prog w = .ok (.bool false) w ∧ (binOp .neq 149 (ptr k) (ptr q)).run Tryz.prog w = .ok (.bool true) w := by
 obtain ⟨P, x, y, e1⟩ := h.nb hk
 obtain ⟨P', x', y', e2⟩ := h.nb hq
 exact ⟨eql_other hne e1 e2, neq_other hne e1 e2⟩
theorem Lst.neqR {w : World} {B l R most cnt : Nat} {ns : List Nd} (h : Lst w B l R most cnt ns) {d : Nd} (hd : d ∈ ns) : (binOp .eql 149 (ptr d.a) (ptr R)).run Tryz.prog w = .ok (.bool false) w ∧ (binOp .neq 149 (ptr d.a) (ptr R)).run Tryz.prog w = .ok (.bool true) w :=
 h.neq (List.mem_cons_of_mem _ (List.mem_map_of_mem hd)) (by simp) (h.ne_ring hd)
theorem Size_any (s : BA) (w : World) (hs : s.size ≤ 4096) : Calls Tryz.prog 191 #[.string s] w fun e w' => Below w.heap.size w w' ∧ e = .returned (.int .i64 ((enc (lst s)).length : Nat)) := by
 have HE := fun w => Encode_any s w hs
 go_enter Tryz.func191, Tryz.ntmps191
 go_wp2_with fail
 refine (HE _).mono ?_
 rintro e w1 ⟨hb, a, m, c, rfl, hO⟩
 have HM : Hid ((enc (lst s)).length = m) := hO.len
 clear hO
 go_wp2
 go_ret
 exact ⟨hb, by rw [HM.out]; rfl⟩
theorem hasRoom_ring (B l R most cnt : Nat) (ns : List Nd) (s : BA) (w : World) (h : Lst w B l R most cnt ns) :
  Calls Tryz.prog 146 #[ptr l, ptr R, .string s] w fun e w' => Below w.heap.size w w' ∧ e = .returned (.bool false) := by
 have hc1 := fun x : Ext w => (h.keep x.ok).cring
 have hex : Nonempty (Ext w) := ⟨⟨w, Below.refl _ _⟩⟩
 have hq := fun x : Ext w => neq_same x.wx R
 clear h
 go_enter Tryz.func146, Tryz.ntmps146
 go_wp2_with fail
 refine wp_region_ext (by kernel_rfl) (by kernel_rfl) ?_
 repeat (go_big_quiet_step (fail))
 refine wpQuiet_nil ?_
 intro wz hz
 obtain ⟨x, rfl⟩ := hz
 have HB : Hid (Below w.heap.size w x.wx) := x.ok
 go_wp2
 go_ret
 exact ⟨HB.out, rfl⟩
theorem enc_le (s : BA) (h : s.size ≤ 4096) : 2 ≤ (enc (lst s)).length ∧ (enc (lst s)).length ≤ 5000 := by
 have h1 := (enc_len (lst s)).1
 have h2 := (enc_len (lst s)).2
 rw [len_lst] at h2
 omega
theorem Calls.ext_same {P : Program} {f : FuncId} {args : Array Value} {w : World} {x : Ext w} {v : Value}
  (h : Calls P f args x.wx fun e w' => e = .returned v ∧ w' = x.wx) : Calls P f args x.wx fun e w'' => e = .returned v ∧ ∃ y : Ext w, w'' = y.wx :=
 h.mono fun _ _ ⟨he, hm⟩ => ⟨he, x, hm⟩
theorem hasRoom_no (B l R most cnt : Nat) (ns : List Nd) (d : Nd) (s : BA) (w : World) (h : Lst w B l R most cnt ns) (hd : d ∈ ns) (hm : ¬ d.ls.length < most) :
  Calls Tryz.prog 146 #[ptr l, ptr d.a, .string s] w fun e w' => Below w.heap.size w w' ∧ e = .returned (.bool false) := by
 have HLen := fun x : Ext w => Len_any B d.p d.r d.n d.c d.ls x.wx ((h.nod d hd).pk.keep x.ok)
 have hc1 := fun x : Ext w => (h.keep x.ok).cring
 have hcm1 := fun x : Ext w => (h.keep x.ok).cmost
 have hcp1 := fun x : Ext w => (h.keep x.ok).cpk hd
 have hq := fun x : Ext w => ((h.keep x.ok).neqR hd).2
 have hex : Nonempty (Ext w) := ⟨⟨w, Below.refl _ _⟩⟩
 obtain ⟨k, hk⟩ : ∃ k, d.ls.length = k := ⟨_, rfl⟩
 rw [hk] at hm
 simp only [hk] at HLen
 have hm1 : decide ((k : Int) < (most : Int)) = false := decide_eq_false (by omega)
 clear h hk hd
 go_enter Tryz.func146, Tryz.ntmps146
 go_wp2_with fail
 refine wp_region_ext (by kernel_rfl) (by kernel_rfl) ?_
 repeat (go_big_quiet_step (first | (go_at_call 148; exact Calls.ext_same (HLen _))))
 refine wpQuiet_nil ?_
 intro wz hz
 obtain ⟨x, rfl⟩ := hz
 have HB : Hid (Below w.heap.size w x.wx) := x.ok
 go_wp2
 go_ret
 exact ⟨HB.out, rfl⟩
theorem hasRoom_yes (B l R most cnt : Nat) (ns : List Nd) (d : Nd) (s : BA) (w : World) (h : Lst w B l R most cnt ns) (hd : d ∈ ns) (hm : d.ls.length < most) (hs : s.size ≤ 4096) :
  Calls Tryz.prog 146 #[ptr l, ptr d.a, .string s] w fun e w' => Below w.heap.size w w' ∧ e = .returned (.bool (decide (d.n + (enc (lst s)).length ≤ 65536))) := by
 have HLen := fun x : Ext w => Len_any B d.p d.r d.n d.c d.ls x.wx ((h.nod d hd).pk.keep x.ok)
 have HSz := fun x : Ext w => Size_pk B d.p d.r d.n d.c d.ls x.wx ((h.nod d hd).pk.keep x.ok)
 have HEn := fun x : Ext w => Size_any s x.wx hs
 have hc1 := fun x : Ext w => (h.keep x.ok).cring
 have hcm1 := fun x : Ext w => (h.keep x.ok).cmost
 have hcp1 := fun x : Ext w => (h.keep x.ok).cpk hd
 have hq := fun x : Ext w => ((h.keep x.ok).neqR hd).2
 have hex : Nonempty (Ext w) := ⟨⟨w, Below.refl _ _⟩⟩
 have hen := (enc_le s hs).2
 have hn := (h.nod d hd).siz
 obtain ⟨k, hk⟩ : ∃ k, d.ls.length = k := ⟨_, rfl⟩
 obtain ⟨z, hz⟩ : ∃ z, (enc (lst s)).length = z := ⟨_, rfl⟩
 obtain ⟨n, hnn⟩ : ∃ n, d.n = n := ⟨_, rfl⟩
 rw [hk] at hm
 rw [hz] at hen ⊢
 rw [hnn] at hn ⊢
 simp only [hk] at HLen
 simp only [hnn] at HSz
 simp only [hz] at HEn
 have hm1 : decide ((k : Int) < (most : Int)) = true := decide_eq_true (by omega)
 have hm2 : (k : Int) < (most : Int) := by omega
 have hdc : decide ((n : Int) + (z : Int) ≤ 65536) = decide (n + z ≤ 65536) := by
  rw [Bool.eq_iff_iff, decide_eq_true_eq, decide_eq_true_eq]; omega
 clear h hk hd hz hnn hs
 go_enter Tryz.func146, Tryz.ntmps146
 go_wp2_with fail
 refine wp_region_ext (by kernel_rfl) (by kernel_rfl) ?_
 repeat (go_big_quiet_step (first | (go_at_call 148; exact Calls.ext_same (HLen _)) | (go_at_call 190; exact Calls.ext_same (HSz _)) | (go_at_call 191; exact Calls.ext_of (HEn _))))
 refine wpQuiet_nil ?_
 intro wz hz
 obtain ⟨x, rfl⟩ := hz
 have HB : Hid (Below w.heap.size w x.wx) := x.ok
 go_wp2
 go_ret
 exact ⟨HB.out, by rw [← hdc]; rfl⟩
def Ok (most : Nat) (ns : List Nd) : Prop := ∀ d ∈ ns, 0 < d.ls.length ∧ d.ls.length ≤ most
theorem Ok.mid {most : Nat} {l1 l2 : List Nd} {d d' : Nd} (h : Ok most (l1 ++ d :: l2)) (h' : 0 < d'.ls.length ∧ d'.ls.length ≤ most) : Ok most (l1 ++ d' :: l2) := by
 intro e he
 rcases mem_or he with rfl | he
 ·exact h'
 ·exact h e (mem_mid he d)
theorem Ok.less {most : Nat} {l1 l2 : List Nd} {d : Nd} (h : Ok most (l1 ++ d :: l2)) : Ok most (l1 ++ l2) := fun e he => h e (mem_mid he d)
theorem Ok.more {most : Nat} {l1 l2 : List Nd} {d : Nd} (h : Ok most (l1 ++ l2)) (h' : 0 < d.ls.length ∧ d.ls.length ≤ most) : Ok most (l1 ++ d :: l2) := by
 intro e he
 rcases mem_or he with rfl | he
 ·exact h'
 ·exact h e he
theorem fit_append {a b : List BA} (ha : Fit a) (hb : Fit b) : Fit (a ++ b) := by
 intro s hs
 rcases List.mem_append.1 hs with h | h
 ·exact ha s h
 ·exact hb s h
theorem fit_take {a : List BA} (ha : Fit a) (i : Nat) : Fit (a.take i) := fun s hs => ha s (List.mem_of_mem_take hs)
theorem fit_drop {a : List BA} (ha : Fit a) (i : Nat) : Fit (a.drop i) := fun s hs => ha s (List.mem_of_mem_drop hs)
theorem pack_one (s : BA) : (pack [s]).length = (enc (lst s)).length := by
 rw [pack, List.length_append]; rfl
def Node1 (w : World) (B l R most cnt : Nat) (l1 l2 : List Nd) (d : Nd) (ls : List BA) (w' : World) : Prop :=
 ∃ d', d'.a = d.a ∧ d'.p = d.p ∧ d'.ls = ls ∧ d'.n = (pack ls).length ∧ Lst w' B l R most cnt (l1 ++ d' :: l2) ∧ Goes w w' l R (l1 ++ d :: l2) (l1 ++ d' :: l2)
theorem Lst.node1 {w w' : World} {B l R most cnt : Nat} {l1 l2 : List Nd} {d : Nd} (h : Lst w B l R most cnt (l1 ++ d :: l2)) {ls : List BA} (hm : Ai w w' d.p d.r) (hE : ∃ a' n' c', Pk w' B d.p a' n' c' ls ∧ Went w d.r a') (hf : Fit ls) (hn : (pack ls).length ≤ 65536) : Node1 w B l R most cnt l1 l2 d ls w' := by
 obtain ⟨a', n', c', hp, hw⟩ := hE
 have hl := hp.len
 obtain ⟨h1, h2⟩ := h.turn hm hp hw hf (by omega)
 exact ⟨⟨d.a, d.p, a', n', c', ls⟩, rfl, rfl, rfl, hl.symm, h1, h2⟩
theorem Insert_nd (B l R most cnt : Nat) (l1 l2 : List Nd) (d : Nd) (i : Nat) (a2 : Option Addr) (m c2 : Nat) (ts : List BA) (w : World) (h : Lst w B l R most cnt (l1 ++ d :: l2)) (hi : i ≤ d.ls.length) (hR : RdS w a2 m ts) (hl : Fit ts) (hm : m ≤ 100000) (hx : d.n + (pack ts).length ≤ 65536) :
  Calls Tryz.prog 147 #[ptr d.p, .int .i64 i, .slice a2 m c2] w fun e w' => e = .returned (.int .i64 0) ∧ Node1 w B l R most cnt l1 l2 d (d.ls.take i ++ (ts ++ d.ls.drop i)) w' := by
 have hd := h.nod d (by simp)
 refine (Insert_ok B d.p d.r d.n d.c d.ls i a2 m c2 ts w hd.pk hd.fit hd.siz hi hR hl hm hx).mono ?_
 rintro e w' ⟨rfl, h1, h2⟩
 refine ⟨rfl, h.node1 h1 h2 (fit_append (fit_take hd.fit i) (fit_append hl (fit_drop hd.fit i))) ?_⟩
 have := rep_len d.ls ts i 0
 rw [Nat.add_zero] at this
 rw [this, hd.pk.len]
 omega
theorem Delete_nd (B l R most cnt : Nat) (l1 l2 : List Nd) (d : Nd) (i : Nat) (N : Int) (w : World) (h : Lst w B l R most cnt (l1 ++ d :: l2)) (hi : i < d.ls.length) :
  Calls Tryz.prog 245 #[ptr d.p, .int .i64 i, .int .i64 N] w fun e w' => e = .returned (.int .i64 (gone d.ls i N : Nat)) ∧ Node1 w B l R most cnt l1 l2 d (d.ls.take i ++ d.ls.drop (i + gone d.ls i N)) w' := by
 have hd := h.nod d (by simp)
 have hk : plc d.ls.length (i : Int) = some i := by unfold plc; rw [if_pos (by omega), if_pos (by omega)]; simp
 refine (Delete_some B d.p d.r d.n d.c d.ls i i N w hd.pk hd.fit hd.siz (by omega) hk).mono ?_
 rintro e w' ⟨rfl, h1, h2⟩
 refine ⟨rfl, h.node1 h1 h2 (fit_append (fit_take hd.fit i) (fit_drop hd.fit _)) ?_⟩
 have := rep_len d.ls [] i (gone d.ls i N)
 rw [List.nil_append] at this
 rw [this, hd.pk.len]
 have := hd.siz
 show _ - _ + 0 ≤ _
 omega
theorem hasRoom_at (B l R most cnt : Nat) (ns : List Nd) (k : Nat) (s : BA) (w : World) (h : Lst w B l R most cnt ns) (hk : k ∈ R :: adr ns) (hs : s.size ≤ 4096) :
  (∀ w1, Below w.heap.size w w1 → Calls Tryz.prog 146 #[ptr l, ptr k, .string s] w1 fun e w' => Below w1.heap.size w1 w' ∧ e = .returned (.bool false)) ∨
  (∃ d ∈ ns, d.a = k ∧ d.ls.length < most ∧ d.n + (enc (lst s)).length ≤ 65536 ∧ ∀ w1, Below w.heap.size w w1 → Calls Tryz.prog 146 #[ptr l, ptr k, .string s] w1 fun e w' => Below w1.heap.size w1 w' ∧ e = .returned (.bool true)) := by
 rcases List.mem_cons.1 hk with rfl | hk
 ·exact .inl fun w1 hb => hasRoom_ring B l k most cnt ns s w1 (h.keep hb)
 ·obtain ⟨d, hd, rfl⟩ := List.mem_map.1 hk
  by_cases hm : d.ls.length < most
  ·by_cases hn : d.n + (enc (lst s)).length ≤ 65536
   ·refine .inr ⟨d, hd, rfl, hm, hn, fun w1 hb => ?_⟩
    have := hasRoom_yes B l R most cnt ns d s w1 (h.keep hb) hd hm hs
    rw [decide_eq_true hn] at this
    exact this
   ·refine .inl fun w1 hb => ?_
    have := hasRoom_yes B l R most cnt ns d s w1 (h.keep hb) hd hm hs
    rw [decide_eq_false hn] at this
    exact this
  ·exact .inl fun w1 hb => hasRoom_no B l R most cnt ns d s w1 (h.keep hb) hd hm
end Go.Proofs.YtmjeljldmmkcpaaGreat
