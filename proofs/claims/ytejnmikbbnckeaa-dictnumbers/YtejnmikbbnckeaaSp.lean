/-
  What a split makes of a dict: two leaves in the place of one, and a directory that may be deeper.
-/
import Derived.Test.YtejnmikbbnckeaaDc6
namespace Go.Proofs.Ytejnmikbbnckeaa
open Go.RowKit Go.PlainAid

theorem bset_nat (h l : Nat) (hl : l < 16) : bset h (l : Int) = decide (h / 2 ^ l % 2 = 1) := by
  unfold bset
  rw [decide_eq_true (by omega : (0 : Int) ≤ l ∧ (l : Int) < 64), Int.toNat_natCast, Bool.true_and]
/-- Whither a place leads behind a split. -/
def plS (D : Dg) (l q a0 a1 i : Nat) : Option Nat := if i % 2 ^ l = q then some (if i / 2 ^ l % 2 = 0 then a0 else a1) else D.pl[i % 2 ^ D.g]?
structure Splitted (w wF : World) (B d x : Nat) (D : Dg) (f f0 f1 : Lf) (pb1 cap1 : Nat) (pl1 : List Nat) : Prop where
  blk : wF.heap[d]? = some (.cells #[.int .u64 (x : Nat), .int .i64 (D.es.length : Nat), .slice (some ⟨pb1, 0, none⟩) (2 ^ max D.g (f.l + 1)) cap1] 63 (0, 0))
  row : OwnP wF B 57 (some ⟨pb1, 0, none⟩) (2 ^ max D.g (f.l + 1)) cap1 pl1
  pls : ∀ i, i < 2 ^ max D.g (f.l + 1) → pl1[i]? = plS D f.l f.q f0.a f1.a i
  leaf0 : Leaf wF B x f0
  leaf1 : Leaf wF B x f1
  pt0 : f0.pt = (f.l + 1, f.q)
  pt1 : f1.pt = (f.l + 1, f.q + 2 ^ f.l)
  es0 : f0.es.Perm (zerosOf x f.l f.es)
  es1 : f1.es.Perm (onesOf x f.l f.es)
  one0 : f0.ts.length = 1
  one1 : f1.ts.length = 1
  new : ∀ j ∈ f0.fp ++ f1.fp, w.heap.size ≤ j
  nod : (f0.fp ++ f1.fp).Nodup
  pb : pb1 = D.pb ∨ w.heap.size ≤ pb1
  pbn : pb1 ∉ f0.fp ++ f1.fp
  stay : Stay w wF [d, D.pb]
theorem split_perm (x l : Nat) (es : List En) : (zerosOf x l es ++ onesOf x l es).Perm es := by
  unfold zerosOf onesOf
  exact List.perm_append_comm.trans (List.filter_append_perm _ es)
theorem Dct.split {w wF : World} {B d x : Nat} {D : Dg} {La Lc : List Lf} {f f0 f1 : Lf} {pb1 cap1 : Nat} {pl1 : List Nat} (h : Dct w B d x D) (e : D.L = La ++ f :: Lc) (hl : f.l < 16) (S : Splitted w wF B d x D f f0 f1 pb1 cap1 pl1) :
    Turn w wF B d x D ⟨max D.g (f.l + 1), pb1, cap1, pl1, La ++ f0 :: (Lc ++ [f1])⟩ ∧ (esL (La ++ f0 :: (Lc ++ [f1]))).Perm D.es := by
  have hf : f ∈ D.L := by rw [e]; simp
  have hlf := h.lef hf
  have hnod := h.nod
  rw [e, fpL_append, fpL_cons] at hnod
  have hlt := h.fplt
  rw [e, fpL_append, fpL_cons] at hlt
  obtain ⟨n1, n2⟩ := List.nodup_cons.1 hnod
  obtain ⟨n3, n4⟩ := List.nodup_cons.1 n2
  rw [List.nodup_append, List.nodup_append] at n4
  obtain ⟨n5, ⟨n6, n7, n8⟩, n9⟩ := n4
  simp only [List.mem_cons, List.mem_append, not_or] at n1 n3
  have hdl := h.lt
  have hpl := (hlt D.pb (by simp)).2
  obtain ⟨m1, m2, m3⟩ := List.nodup_append.1 S.nod
  have hnew0 : ∀ j ∈ f0.fp, w.heap.size ≤ j := fun j hj => S.new j (List.mem_append.2 (.inl hj))
  have hnew1 : ∀ j ∈ f1.fp, w.heap.size ≤ j := fun j hj => S.new j (List.mem_append.2 (.inr hj))
  have hpm : (esL (La ++ f0 :: (Lc ++ [f1]))).Perm D.es := by
    unfold Dg.es
    rw [e, esL_append, esL_append, esL_cons, esL_cons, esL_append, esL_one]
    refine List.Perm.append_left _ ?_
    refine (List.Perm.append_left _ List.perm_append_comm).trans ?_
    rw [← List.append_assoc]
    exact ((S.es0.append S.es1).trans (split_perm x f.l f.es)).append_right _
  have hold : ∀ u, u ∈ La ∨ u ∈ Lc → u ∈ D.L := fun u hu => by rw [e]; rcases hu with hu | hu <;> simp [hu]
  have hpb : pb1 ≠ d := by
    rcases S.pb with e2 | e2
    · rw [e2]; exact fun e3 => n1.1 e3.symm
    · omega
  have hpbo : ∀ u, u ∈ La ∨ u ∈ Lc → pb1 ∉ u.fp := by
    intro u hu hk
    rcases S.pb with e2 | e2
    · rw [e2] at hk
      rcases hu with hu | hu
      · exact n3.1 (mem_fpL hu hk)
      · exact n3.2.2 (mem_fpL hu hk)
    · have := (h.leaf u (hold u hu)).fplt _ hk; omega
  have hap : ∀ u, u ∈ La ∨ u ∈ Lc → ∀ i, isIn u.pt i = true → isIn f.pt i = false := by
    intro u hu i hi
    cases hfi : isIn f.pt i with
    | false => rfl
    | true =>
      have := h.same (hold u hu) hf hi hfi
      subst this
      exfalso
      rcases hu with hu | hu
      · exact n9 u.a (mem_fpL hu (by simp [Lf.fp])) u.a (by simp [Lf.fp]) rfl
      · exact n8 u.a (by simp [Lf.fp]) u.a (mem_fpL hu (by simp [Lf.fp])) rfl
  refine ⟨⟨⟨?_, S.row, ?_, ?_, ?_, ?_, ?_, ?_, ?_, h.low, h.seed, ?_⟩, ?_, ?_⟩, hpm⟩
  · show wF.heap[d]? = some (.cells #[.int .u64 (x : Nat), .int .i64 ((esL (La ++ f0 :: (Lc ++ [f1]))).length : Nat), .slice (some ⟨pb1, 0, none⟩) (2 ^ max D.g (f.l + 1)) cap1] 63 (0, 0))
    rw [hpm.length_eq]
    exact S.blk
  · intro u hu
    simp only [List.mem_append, List.mem_cons, List.not_mem_nil, or_false] at hu
    have hk : u ∈ La ∨ u ∈ Lc → Leaf wF B x u := fun hu => (h.leaf u (hold u hu)).stay S.stay (fun k hk => by
      simp only [List.mem_cons, List.not_mem_nil, or_false, not_or]
      rcases hu with hu | hu
      · exact ⟨fun e => n1.2.1 (e ▸ mem_fpL hu hk), fun e => n3.1 (e ▸ mem_fpL hu hk)⟩
      · exact ⟨fun e => n1.2.2.2 (e ▸ mem_fpL hu hk), fun e => n3.2.2 (e ▸ mem_fpL hu hk)⟩)
    rcases hu with hu | rfl | hu | rfl
    · exact hk (.inl hu)
    · exact S.leaf0
    · exact hk (.inr hu)
    · exact S.leaf1
  · show Shp (max D.g (f.l + 1)) (shL (La ++ f0 :: (Lc ++ [f1])))
    have hs := h.shp
    unfold Dg.sh shL at hs
    rw [e, List.map_append, List.map_cons] at hs
    unfold shL
    rw [List.map_append, List.map_cons, List.map_append, S.pt0]
    show Shp _ (_ ++ _ :: (_ ++ [f1.pt]))
    rw [S.pt1]
    exact hs.split hl
  · intro u hu i hi hin
    show pl1[i]? = _
    rw [S.pls i hi]
    simp only [List.mem_append, List.mem_cons, List.not_mem_nil, or_false] at hu
    have hk : u ∈ La ∨ u ∈ Lc → plS D f.l f.q f0.a f1.a i = some u.a := fun hu => by
      have h1 := hap u hu i hin
      rw [isIn_no] at h1
      replace h1 : i % 2 ^ f.l ≠ f.q := h1
      unfold plS
      rw [if_neg h1]
      have h2 := h.place (hold u hu) hin
      exact h2.1
    rcases hu with hu | rfl | hu | rfl
    · exact hk (.inl hu)
    · rw [S.pt0, isIn_zero hlf.2.2, isIn_iff] at hin
      replace hin : i % 2 ^ f.l = f.q ∧ i / 2 ^ f.l % 2 = 0 := hin
      unfold plS
      rw [if_pos hin.1, if_pos hin.2]
    · exact hk (.inr hu)
    · rw [S.pt1, isIn_one, isIn_iff] at hin
      replace hin : i % 2 ^ f.l = f.q ∧ i / 2 ^ f.l % 2 = 1 := hin
      unfold plS
      rw [if_pos hin.1, if_neg (by rw [hin.2]; decide)]
  · intro u hu e' he'
    simp only [List.mem_append, List.mem_cons, List.not_mem_nil, or_false] at hu
    rcases hu with hu | rfl | hu | rfl
    · exact h.own u (hold u (.inl hu)) e' he'
    · have h1 := List.mem_filter.1 (S.es0.mem_iff.1 he')
      rw [S.pt0, isIn_zero hlf.2.2]
      refine ⟨h.own f hf e' h1.1, ?_⟩
      have h2 := h1.2
      rw [bset_nat _ _ hl] at h2
      simp at h2
      exact h2
    · exact h.own u (hold u (.inr hu)) e' he'
    · have h1 := List.mem_filter.1 (S.es1.mem_iff.1 he')
      rw [S.pt1, isIn_one]
      refine ⟨h.own f hf e' h1.1, ?_⟩
      have h2 := h1.2
      rw [bset_nat _ _ hl] at h2
      simpa using h2
  · intro u hu hl'
    simp only [List.mem_append, List.mem_cons, List.not_mem_nil, or_false] at hu
    rcases hu with hu | rfl | hu | rfl
    · exact h.one u (hold u (.inl hu)) hl'
    · exact S.one0
    · exact h.one u (hold u (.inr hu)) hl'
    · exact S.one1
  · intro u hu
    simp only [List.mem_append, List.mem_cons, List.not_mem_nil, or_false] at hu
    rcases hu with hu | rfl | hu | rfl
    · exact h.ful u (hold u (.inl hu))
    · exact .inl S.one0
    · exact h.ful u (hold u (.inr hu))
    · exact .inl S.one1
  · show (d :: pb1 :: fpL (La ++ f0 :: (Lc ++ [f1]))).Nodup
    have e1 : fpL [f1] = f1.fp := by rw [fpL_cons]; exact List.append_nil _
    have o1 : ∀ a ∈ fpL La, a < w.heap.size := fun a ha => (hlt a (by simp [ha])).2
    have o2 : ∀ a ∈ fpL Lc, a < w.heap.size := fun a ha => (hlt a (by simp [ha])).2
    rw [fpL_append, fpL_cons, fpL_append, e1, List.nodup_cons, List.nodup_cons, List.nodup_append, List.nodup_append, List.nodup_append]
    have p1 : pb1 ∉ fpL La := fun hm => by
      obtain ⟨u, hu, hk⟩ := List.mem_flatMap.1 hm
      exact hpbo u (.inl hu) hk
    have p2 : pb1 ∉ fpL Lc := fun hm => by
      obtain ⟨u, hu, hk⟩ := List.mem_flatMap.1 hm
      exact hpbo u (.inr hu) hk
    have p3 := S.pbn
    simp only [List.mem_append, not_or] at p3
    refine ⟨?_, ?_, n5, ⟨m1, ⟨n7, m2, ?_⟩, ?_⟩, ?_⟩
    · simp only [List.mem_cons, List.mem_append, not_or]
      exact ⟨fun e => hpb e.symm, n1.2.1, fun hm => by have := hnew0 _ hm; omega, n1.2.2.2, fun hm => by have := hnew1 _ hm; omega⟩
    · simp only [List.mem_append, not_or]
      exact ⟨p1, p3.1, p2, p3.2⟩
    · intro a ha b hb e; subst e; have := hnew1 _ hb; have := o2 _ ha; omega
    · intro a ha b hb e
      subst e
      rcases List.mem_append.1 hb with hb | hb
      · have := hnew0 _ ha; have := o2 _ hb; omega
      · exact m3 a ha a hb rfl
    · intro a ha b hb e
      subst e
      have h1 := o1 _ ha
      simp only [List.mem_append] at hb
      rcases hb with hb | hb | hb
      · have := hnew0 _ hb; omega
      · exact n9 a ha a (by simp [hb]) rfl
      · have := hnew1 _ hb; omega
  · show (esL _).length ≤ _
    rw [hpm.length_eq]
    exact h.le
  · exact S.stay.mono (fun i hi => by simp only [List.mem_cons, List.not_mem_nil, or_false] at hi; unfold Dg.fp; rcases hi with rfl | rfl <;> simp)
  · intro j hj
    change j ∈ d :: pb1 :: fpL (La ++ f0 :: (Lc ++ [f1])) at hj
    unfold Dg.fp
    rw [e]
    rw [fpL_append, fpL_cons, fpL_append, fpL_cons] at hj
    rw [fpL_append, fpL_cons]
    simp only [List.mem_cons, List.mem_append] at hj ⊢
    rcases hj with hj | hj | hj | hj | hj | hj | hj
    · exact .inl (.inl hj)
    · rcases S.pb with e2 | e2
      · exact .inl (.inr (.inl (hj.trans e2)))
      · exact .inr (by omega)
    · exact .inl (.inr (.inr (.inl hj)))
    · exact .inr (hnew0 j hj)
    · exact .inl (.inr (.inr (.inr (.inr hj))))
    · exact .inr (hnew1 j hj)
    · simp [fpL] at hj
end Go.Proofs.Ytejnmikbbnckeaa
