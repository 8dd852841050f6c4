/- Texts that the others stand on. -/
import Derived.Test.YtikimcbalkhooaaGreatJ9
import Derived.Test.YtikimcbalkhooaaGreatJ17
namespace Go.Proofs.YtikimcbalkhooaaGreat.Zs.Dk
open Go.Proofs.YtikimcbalkhooaaGreat.Dk
open Go.RowKit Go.PlainAid
def dtag (t : TypeId) : Bool := t == 136 || t == 138 || t == 193 || t == 137 || t == 200 || t == 205
theorem Leaf.tags {w : World} {B x : Nat} {f : Lf} (h : Leaf w B x f) : ∀ k ∈ f.fp, ∃ cs t, w.heap[k]? = some (.cells cs t (0, 0)) ∧ dtag t = true := by
 intro k hk
 rcases List.mem_cons.1 hk with rfl | hk
 ·exact ⟨_, _, h.blk, rfl⟩
 rcases List.mem_cons.1 hk with rfl | hk
 ·obtain ⟨-, -, cur, h1⟩ := OwnR.lt h.row (k := f.tb) rfl
  exact ⟨_, _, h1, rfl⟩
 ·obtain ⟨t, ht, hk⟩ := List.mem_flatMap.1 hk
  have hT := h.tab t ht
  simp only [Tb.fp, List.mem_cons, List.not_mem_nil, or_false] at hk
  rcases hk with rfl | rfl
  ·exact ⟨_, _, hT.top.blk, rfl⟩
  ·obtain ⟨cs, h1, -⟩ := hT.row.ex
   exact ⟨_, _, h1, rfl⟩
theorem Dct.tags {w : World} {B d x : Nat} {D : Dg} (h : Dct w B d x D) : ∀ k ∈ D.fp d, ∃ cs t, w.heap[k]? = some (.cells cs t (0, 0)) ∧ dtag t = true := by
 intro k hk
 rcases List.mem_cons.1 hk with rfl | hk
 ·exact ⟨_, _, h.blk, rfl⟩
 rcases List.mem_cons.1 hk with rfl | hk
 ·obtain ⟨-, -, cur, h1⟩ := OwnR.lt h.row (k := D.pb) rfl
  exact ⟨_, _, h1, rfl⟩
 ·obtain ⟨f, hf, hk⟩ := List.mem_flatMap.1 hk
  exact (h.leaf f hf).tags k hk
theorem Dct.nodk {w : World} {B d x : Nat} {D : Dg} (h : Dct w B d x D) : (keysOf D.es).Nodup := by
 have key : ∀ (M : List Lf), (∀ u ∈ M, u ∈ D.L) → M.Nodup → (keysOf (esL M)).Nodup := by
  intro M
  induction M with
  | nil => intro _ _; exact List.nodup_nil
  | cons f M ih =>
   intro hM hn
   rw [List.nodup_cons] at hn
   rw [esL_cons, keysOf_append, List.nodup_append]
   refine ⟨(h.leaf f (hM f (by simp))).key, ih (fun u hu => hM u (List.mem_cons_of_mem _ hu)) hn.2, ?_⟩
   intro a ha b hb e
   subst e
   obtain ⟨e1, h1, rfl⟩ := List.mem_map.1 ha
   obtain ⟨e2, h2, h3⟩ := List.mem_map.1 hb
   obtain ⟨u, hu, h4⟩ := List.mem_flatMap.1 h2
   have h5 := h.own f (hM f (by simp)) e1 h1
   have h6 := h.own u (hM u (List.mem_cons_of_mem _ hu)) e2 h4
   rw [h3] at h6
   exact hn.1 ((h.same (hM f (by simp)) (hM u (List.mem_cons_of_mem _ hu)) h5 h6) ▸ hu)
 refine key D.L (fun u hu => hu) ?_
 exact h.ord_perm.nodup_iff.1 (by
  have h1 := h.ord_perm
  unfold ordU List.Nodup
  rw [List.pairwise_filterMap]
  refine List.Pairwise.imp ?_ List.nodup_range
  intro i j hij u hu v hv e
  subst e
  have k1 : u.q = i := by simpa using List.find?_some hu
  have k2 : u.q = j := by simpa using List.find?_some hv
  exact hij (k1.symm.trans k2))
def hasK (es : List En) (k : ByteArray) : Bool := es.any fun e => decide (e.1 = k)
theorem hasK_iff {es : List En} {k : ByteArray} : hasK es k = true ↔ k ∈ keysOf es := by
 unfold hasK
 rw [List.any_eq_true]
 constructor
 ·rintro ⟨e, he, h⟩
  exact List.mem_map.2 ⟨e, he, of_decide_eq_true h⟩
 ·intro h
  obtain ⟨e, he, h1⟩ := List.mem_map.1 h
  exact ⟨e, he, decide_eq_true h1⟩
theorem hasK_no {es : List En} {k : ByteArray} (h : k ∉ keysOf es) : hasK es k = false := by
 cases e : hasK es k with
 | false => rfl
 | true => exact absurd (hasK_iff.1 e) h
def putE (es : List En) (k : ByteArray) (v : Unit) : List En := if hasK es k = true then es.map (fun e => if e.1 = k then (k, v) else e) else es ++ [(k, v)]
theorem not_of_nodup {a c : List En} {k : ByteArray} {u : Unit} (hn : (keysOf (a ++ (k, u) :: c)).Nodup) : k ∉ keysOf a ∧ k ∉ keysOf c := by
 rw [keysOf_append] at hn
 replace hn : (keysOf a ++ k :: keysOf c).Nodup := hn
 rw [List.nodup_append, List.nodup_cons] at hn
 exact ⟨fun h => hn.2.2 k h k (by simp) rfl, hn.2.1.1⟩
theorem map_same {a : List En} {k : ByteArray} {v : Unit} (h : k ∉ keysOf a) : a.map (fun e => if e.1 = k then (k, v) else e) = a := by
 conv => rhs; rw [← List.map_id a]
 refine List.map_congr_left fun e he => ?_
 rw [if_neg (fun e2 => h (List.mem_map.2 ⟨e, he, e2⟩))]
 rfl
theorem putE_old {a c : List En} {k : ByteArray} {u v : Unit} (hn : (keysOf (a ++ (k, u) :: c)).Nodup) : putE (a ++ (k, u) :: c) k v = a ++ (k, v) :: c := by
 obtain ⟨h1, h2⟩ := not_of_nodup hn
 unfold putE
 rw [if_pos (hasK_iff.2 (by simp [keysOf])), List.map_append, List.map_cons, map_same h1, map_same h2, if_pos rfl]
theorem key_split {es : List En} {k : ByteArray} (h : k ∈ keysOf es) : ∃ a u c, es = a ++ (k, u) :: c := by
 obtain ⟨⟨k', u⟩, he, rfl⟩ := List.mem_map.1 h
 obtain ⟨a, c, e⟩ := List.append_of_mem he
 exact ⟨a, u, c, e⟩
theorem PutD (B d x : Nat) (D : Dg) (k : ByteArray) (v : Unit) (w : World) (hD : Dct w B d x D) (hks : k.size ≤ maxLen) (hle : D.es.length < 1000000) :
  Calls Tryz.prog 63 #[ptr d, .string k, .agg #[]] w fun e w' => e = .returned (.int .i64 0) ∧ ∃ D', Turn w w' B d x D D' ∧ D'.es.Perm (putE D.es k v) := by
 by_cases h : k ∈ keysOf D.es
 ·obtain ⟨a, u, c, e⟩ := key_split h
  refine (PutD_old B d x D k u v w hD (by rw [e]; simp)).mono ?_
  rintro en w' ⟨rfl, D', hT, -, -, A, C, e1, e2⟩
  refine ⟨rfl, D', hT, ?_⟩
  have hn := hD.nodk
  rw [e1] at hn ⊢
  rw [putE_old hn, e2]
 ·refine (PutD_new B d x D k v w hD hks h hle).mono ?_
  rintro en w' ⟨rfl, D', hT, -, hp⟩
  refine ⟨rfl, D', hT, ?_⟩
  unfold putE
  rw [if_neg (by rw [hasK_no h]; decide)]
  exact hp
theorem GetD (B d x : Nat) (D : Dg) (k : ByteArray) (w : World) (hD : Dct w B d x D) (hks : k.size ≤ maxLen) :
  Calls Tryz.prog 100 #[ptr d, .string k] w fun e w' => e = .returned (.tuple #[.agg #[], .bool (hasK D.es k)]) ∧ Below w.heap.size w w' := by
 by_cases h : k ∈ keysOf D.es
 ·obtain ⟨a, u, c, e⟩ := key_split h
  have hm : (k, u) ∈ D.es := by rw [e]; simp
  rw [hasK_iff.2 h]
  exact Get_dsome B d x D k u w hD hks hm
 ·rw [hasK_no h]
  exact Get_dnone B d x D k w hD hks h
end Go.Proofs.YtikimcbalkhooaaGreat.Zs.Dk
