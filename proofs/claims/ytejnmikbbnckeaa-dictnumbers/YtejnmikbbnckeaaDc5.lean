/-
  A dict one of whose leaves was turned; New, Put of a key that is there, Delete.
-/
import Derived.Test.YtejnmikbbnckeaaDc4
namespace Go.Proofs.Ytejnmikbbnckeaa
open Go.RowKit Go.PlainAid

/-- The blocks of a dict. -/
def Dg.fp (D : Dg) (d : Nat) : List Nat := d :: D.pb :: fpL D.L
/-- What becomes of a dict: it lies in what was its own, and in new memory. -/
structure Turn (w w' : World) (B d x : Nat) (D D' : Dg) : Prop where
  dct : Dct w' B d x D'
  stay : Stay w w' (D.fp d)
  fps : ∀ j ∈ D'.fp d, j ∈ D.fp d ∨ w.heap.size ≤ j
theorem Turn.first {w w0 w' : World} {B d x : Nat} {D D' : Dg} (h : Turn w w' B d x D D') (hb : Below w0.heap.size w0 w) : Turn w0 w' B d x D D' :=
  ⟨h.dct, (Stay.of_below hb _).trans h.stay (fun _ hi => .inl hi), fun j hj => (h.fps j hj).imp id (fun k => Nat.le_trans hb.size k)⟩
theorem Turn.trans {w w1 w2 : World} {B d x : Nat} {D D1 D2 : Dg} (h : Turn w w1 B d x D D1) (k : Turn w1 w2 B d x D1 D2) : Turn w w2 B d x D D2 :=
  ⟨k.dct, h.stay.trans k.stay (fun i hi => h.fps i hi), fun j hj => (k.fps j hj).elim (h.fps j) (fun e => .inr (Nat.le_trans h.stay.size e))⟩
theorem Turn.below {w w' : World} {B d x : Nat} {D D' : Dg} (h : Turn w w' B d x D D') (hD : Dct w B d x D) : Below B w w' :=
  h.stay.below (fun i hi => (hD.fplt i hi).1) (by have := hD.low; have := hD.lt; omega)
theorem Turn.refl {w w' : World} {B d x : Nat} {D : Dg} (h : Dct w B d x D) (hb : Below w.heap.size w w') : Turn w w' B d x D D := ⟨h.keep hb, Stay.of_below hb _, fun _ hj => .inl hj⟩

theorem Dct.turn {w w' w'' : World} {B d x : Nat} {D : Dg} {La Lc : List Lf} {f f' : Lf} (h : Dct w B d x D) (e : D.L = La ++ f :: Lc) (hG : Grew w w' B x f f')
    (hb : w''.heap[d]? = some (.cells #[.int .u64 (x : Nat), .int .i64 ((esL (La ++ f' :: Lc)).length : Nat), .slice (some ⟨D.pb, 0, none⟩) (2 ^ D.g) D.cap] 63 (0, 0))) (hs : Stay w' w'' [d])
    (hown : ∀ e ∈ f'.es, isIn f.pt (hsh x e.1) = true) (hone : f.l < 16 → f'.ts.length = 1) (hful : Ful f') (hle : (esL (La ++ f' :: Lc)).length ≤ 1000000) :
    Turn w w'' B d x D { D with L := La ++ f' :: Lc } := by
  have hpt : f'.pt = f.pt := by unfold Lf.pt; rw [hG.l, hG.q]
  have hnod := h.nod
  rw [e, fpL_append, fpL_cons] at hnod
  have hlt := h.fplt
  rw [e, fpL_append, fpL_cons] at hlt
  obtain ⟨n1, n2⟩ := List.nodup_cons.1 hnod
  obtain ⟨n3, n4⟩ := List.nodup_cons.1 n2
  rw [List.nodup_append, List.nodup_append] at n4
  obtain ⟨n5, ⟨n6, n7, n8⟩, n9⟩ := n4
  simp only [List.mem_cons, List.mem_append, not_or] at n1 n3
  have hd' : ∀ k ∈ f'.fp, k ≠ d := fun k hk e => by
    subst e
    rcases hG.fps k hk with h1 | h1
    · exact n1.2.2.1 h1
    · have := h.lt; omega
  have hp' : ∀ k ∈ f'.fp, k ≠ D.pb := fun k hk e => by
    subst e
    rcases hG.fps _ hk with h1 | h1
    · exact n3.2.1 h1
    · have := hlt D.pb (by simp); omega
  have hS : Stay w w'' (d :: f.fp) := (hG.stay.mono (fun i hi => List.mem_cons_of_mem _ hi)).trans (hs.mono (M' := [d]) (fun i hi => hi)) (fun i hi => .inl (by simp at hi; simp [hi]))
  have hleafs : ∀ u ∈ La ++ f' :: Lc, Leaf w'' B x u := by
    intro u hu
    rcases List.mem_append.1 hu with hu | hu
    · refine (h.leaf u (by rw [e]; simp [hu])).stay hS (fun k hk => ?_)
      simp only [List.mem_cons, not_or]
      exact ⟨fun e => n1.2.1 (e ▸ mem_fpL hu hk), fun hk2 => n9 k (mem_fpL hu hk) k (by simp [hk2]) rfl⟩
    · rcases List.mem_cons.1 hu with rfl | hu
      · exact hG.leaf.stay hs (fun k hk => by simpa using hd' k hk)
      · refine (h.leaf u (by rw [e]; simp [hu])).stay hS (fun k hk => ?_)
        simp only [List.mem_cons, not_or]
        exact ⟨fun e => n1.2.2.2 (e ▸ mem_fpL hu hk), fun hk2 => n8 k hk2 k (mem_fpL hu hk) rfl⟩
  refine ⟨⟨hb, ?_, hleafs, ?_, ?_, ?_, ?_, ?_, ?_, h.low, h.seed, hle⟩, ?_, ?_⟩
  · refine OwnR.stay h.row hS (fun k hk => ?_)
    cases hk
    simp only [List.mem_cons, not_or]
    exact ⟨fun e => n1.1 e.symm, n3.2.1⟩
  · show Shp D.g (shL (La ++ f' :: Lc))
    have := h.shp
    unfold Dg.sh shL at this
    rw [e, List.map_append, List.map_cons] at this
    unfold shL
    rw [List.map_append, List.map_cons, hpt]
    exact this
  · intro u hu i hi hin
    rcases List.mem_append.1 hu with hu | hu
    · exact h.dir u (by rw [e]; simp [hu]) i hi hin
    · rcases List.mem_cons.1 hu with rfl | hu
      · rw [hG.a]
        rw [hpt] at hin
        exact h.dir f (by rw [e]; simp) i hi hin
      · exact h.dir u (by rw [e]; simp [hu]) i hi hin
  · intro u hu
    rcases List.mem_append.1 hu with hu | hu
    · exact h.own u (by rw [e]; simp [hu])
    · rcases List.mem_cons.1 hu with rfl | hu
      · rw [hpt]; exact hown
      · exact h.own u (by rw [e]; simp [hu])
  · intro u hu
    rcases List.mem_append.1 hu with hu | hu
    · exact h.one u (by rw [e]; simp [hu])
    · rcases List.mem_cons.1 hu with rfl | hu
      · rw [hG.l]; exact hone
      · exact h.one u (by rw [e]; simp [hu])
  · intro u hu
    rcases List.mem_append.1 hu with hu | hu
    · exact h.ful u (by rw [e]; simp [hu])
    · rcases List.mem_cons.1 hu with rfl | hu
      · exact hful
      · exact h.ful u (by rw [e]; simp [hu])
  · show (d :: D.pb :: fpL (La ++ f' :: Lc)).Nodup
    rw [fpL_append, fpL_cons, List.nodup_cons, List.nodup_cons, List.nodup_append, List.nodup_append]
    refine ⟨?_, ?_, n5, ⟨hG.leaf.nod, n7, ?_⟩, ?_⟩
    · simp only [List.mem_cons, List.mem_append, not_or]
      exact ⟨n1.1, n1.2.1, fun hk => hd' d hk rfl, n1.2.2.2⟩
    · simp only [List.mem_append, not_or]
      exact ⟨n3.1, fun hk => hp' _ hk rfl, n3.2.2⟩
    · intro a ha b hb2 e2
      subst e2
      rcases hG.fps a ha with h1 | h1
      · exact n8 a h1 a hb2 rfl
      · have := hlt a (by simp [hb2]); omega
    · intro a ha b hb2 e2
      subst e2
      rcases List.mem_append.1 hb2 with hb2 | hb2
      · rcases hG.fps a hb2 with h1 | h1
        · exact n9 a ha a (by simp [h1]) rfl
        · have := hlt a (by simp [ha]); omega
      · exact n9 a ha a (by simp [hb2]) rfl
  · refine hS.mono (fun i hi => ?_)
    unfold Dg.fp
    rw [e, fpL_append, fpL_cons]
    rcases List.mem_cons.1 hi with rfl | hi
    · simp
    · simp [hi]
  · intro j hj
    change j ∈ d :: D.pb :: fpL (La ++ f' :: Lc) at hj
    unfold Dg.fp
    rw [e]
    rw [fpL_append, fpL_cons] at hj ⊢
    simp only [List.mem_cons, List.mem_append] at hj ⊢
    rcases hj with hj | hj | hj | hj | hj
    · exact .inl (.inl hj)
    · exact .inl (.inr (.inl hj))
    · exact .inl (.inr (.inr (.inl hj)))
    · exact (hG.fps j hj).imp (fun h1 => .inr (.inr (.inr (.inl h1)))) id
    · exact .inl (.inr (.inr (.inr (.inr hj))))

/-- A leaf that newLeaf made. -/
theorem Leaf.made {w1 w2 : World} {B x l a p b G : Nat} {z : List Cl} (q : Nat) (hT : Tab w1 B p b x G z) (hb : Below w1.heap.size w1 w2) (ha : w1.heap.size < a)
    (hblk : w2.heap[a]? = some (.cells #[.int .i64 (l : Nat), .slice (some ⟨w1.heap.size, 0, none⟩) 1 1] 84 (0, 0))) (hrow : OwnP w2 w1.heap.size 59 (some ⟨w1.heap.size, 0, none⟩) 1 1 [p]) (hB : B ≤ w1.heap.size) :
    Leaf w2 B x ⟨l, q, a, w1.heap.size, 1, [⟨p, b, G, z⟩]⟩ := by
  have h1 := hT.top.lt
  have h2 := hT.row.lt
  have h3 := hT.top.ne hT.row
  refine ⟨hblk, OwnR.low hrow hB, ?_, by show B ≤ a; omega, ?_, ?_, Nat.one_pos⟩
  · intro t ht
    cases List.mem_singleton.1 ht
    exact hT.keep hb
  · show [a, w1.heap.size, p, b].Nodup
    simp only [List.nodup_cons, List.mem_cons, List.not_mem_nil, or_false, not_or, not_false_eq_true, List.nodup_nil, and_true]
    omega
  · show (keysOf (tsEs [(⟨p, b, G, z⟩ : Tb)])).Nodup
    rw [tsEs_one]
    exact hT.inv.nod

set_option maxHeartbeats 4000000 in
theorem New_dict (x : Nat) (w : World) (hx : x < 18446744073709551616) :
    Calls Try.prog 9 #[.int .u64 x] w fun e w' => Below w.heap.size w w' ∧ ∃ d D, e = .returned (ptr d) ∧ Dct w' w.heap.size d x D ∧ D.g = 0 ∧ D.sh = [(0, 0)] ∧ D.es = [] := by
  have HN := New_tab x w hx
  have HX : Hid (x < 18446744073709551616) := hx
  clear hx
  go_enter Try.func9, Try.ntmps9
  go_wp2_with fail
  refine HN.mono ?_
  rintro e w1 ⟨hb1, p, b, rfl, hT1, -⟩
  have HB1 : Hid (Below w.heap.size w w1) := hb1
  have HT1 : Hid (Tab w1 w.heap.size p b x 1 (news0 1)) := hT1
  have hL := newLeaf_any 0 p w1
  clear hb1 hT1 HN
  go_wp2_with fail
  refine hL.mono ?_
  rintro e w2 ⟨hb2, a, rfl, ha, hal, hblk, hrow⟩
  have HB2 := step_below HB1 hb2
  have HL2 : Hid (Leaf w2 w.heap.size x ⟨0, 0, a, w1.heap.size, 1, [⟨p, b, 1, news0 1⟩]⟩) := Leaf.made 0 HT1.out hb2 ha hblk hrow HB1.out.size
  clear hb2 ha hal hblk hrow hL
  obtain ⟨w3, hw3⟩ : ∃ w3, w2.alloc (.cells #[ptr a] 57) = w3 := ⟨_, rfl⟩
  have HB3' : Hid (Below w2.heap.size w2 w3) := by show Below _ _ _; rw [← hw3]; exact alloc_below w2 _
  have HS3 : Hid (w3.heap.size = w2.heap.size + 1) := by show _ = _; rw [← hw3]; exact size_alloc w2 _
  have HO3 : Hid (OwnP w3 w2.heap.size 57 (some ⟨w2.heap.size, 0, none⟩) 1 1 [a]) := by
    show OwnP _ _ _ _ _ _ _
    rw [← hw3]
    exact ⟨rfl, .inr ⟨w2.heap.size, 1, #[ptr a], rfl, Nat.le_refl _, heap_alloc_new w2 _, Nat.le_refl _, by decide, rfl, rfl⟩⟩
  obtain ⟨w4, hw4⟩ : ∃ w4, w3.alloc (.cells #[.int .u64 (x : Nat), .int .i64 0, .slice (some ⟨w2.heap.size, 0, none⟩) 1 1] 63) = w4 := ⟨_, rfl⟩
  have HB4' : Hid (Below w3.heap.size w3 w4) := by show Below _ _ _; rw [← hw4]; exact alloc_below w3 _
  have HK4 : Hid (w4.heap[w3.heap.size]? = some (.cells #[.int .u64 (x : Nat), .int .i64 0, .slice (some ⟨w2.heap.size, 0, none⟩) 1 1] 63 (0, 0))) := by show _ = _; rw [← hw4]; exact heap_alloc_new w3 _
  have HB3 := step_below HB2 HB3'.out
  have HB4 := step_below HB3 HB4'.out
  go_wp2
  go_ret
  refine ⟨HB4.out, w3.heap.size, ⟨0, w2.heap.size, 1, [a], [⟨0, 0, a, w1.heap.size, 1, [⟨p, b, 1, news0 1⟩]⟩]⟩, rfl, ?_, rfl, rfl, ?_⟩
  · have hL4 : Leaf w4 w.heap.size x ⟨0, 0, a, w1.heap.size, 1, [⟨p, b, 1, news0 1⟩]⟩ := (HL2.out.keep HB3'.out).keep HB4'.out
    have hes : esL [(⟨0, 0, a, w1.heap.size, 1, [⟨p, b, 1, news0 1⟩]⟩ : Lf)] = [] := by rw [esL_one]; show tsEs _ = []; rw [tsEs_one]; exact ents_news0 1
    have hfl := HL2.out.fplt
    have hs2 := HB2.out.size
    have hs3 := HS3.out
    refine ⟨?_, OwnR.low (OwnR.keep HO3.out HB4'.out) HB2.out.size, ?_, Shp.new, ?_, ?_, ?_, ?_, ?_, HB3.out.size, HX.out, ?_⟩
    · show w4.heap[w3.heap.size]? = some (.cells #[.int .u64 (x : Nat), .int .i64 ((esL [(⟨0, 0, a, w1.heap.size, 1, [⟨p, b, 1, news0 1⟩]⟩ : Lf)]).length : Nat), .slice (some ⟨w2.heap.size, 0, none⟩) (2 ^ 0) 1] 63 (0, 0))
      rw [hes]
      exact HK4.out
    · intro f hf
      cases List.mem_singleton.1 hf
      exact hL4
    · intro f hf i hi _
      cases List.mem_singleton.1 hf
      obtain rfl : i = 0 := by simp at hi; exact hi
      rfl
    · intro f hf e he
      have : e ∈ esL [(⟨0, 0, a, w1.heap.size, 1, [⟨p, b, 1, news0 1⟩]⟩ : Lf)] := mem_esL hf he
      rw [hes] at this
      cases this
    · intro f hf _
      cases List.mem_singleton.1 hf
      rfl
    · intro f hf
      cases List.mem_singleton.1 hf
      exact .inl rfl
    · show (w3.heap.size :: w2.heap.size :: fpL [(⟨0, 0, a, w1.heap.size, 1, [⟨p, b, 1, news0 1⟩]⟩ : Lf)]).Nodup
      rw [fpL_cons, List.nodup_cons, List.nodup_cons]
      have e0 : fpL ([] : List Lf) = [] := rfl
      rw [e0, List.append_nil]
      refine ⟨?_, ?_, HL2.out.nod⟩
      · rw [List.mem_cons, not_or]
        exact ⟨by omega, fun h => by have := (hfl _ h).2; omega⟩
      · exact fun h => by have := (hfl _ h).2; omega
    · show (esL _).length ≤ _
      rw [hes]
      decide
  · show esL _ = []
    rw [esL_one]; show tsEs _ = []; rw [tsEs_one]; exact ents_news0 1
end Go.Proofs.Ytejnmikbbnckeaa
