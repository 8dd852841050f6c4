/- Texts that the others stand on. -/
import Derived.Test.YtnajhjmdpaeelaaGreatDoorG19
namespace Go.Proofs.YtnajhjmdpaeelaaGreatDoor.Zs.Dk
open Go.RowKit Go.PlainAid
/-- The types of a dict's blocks; those of the document's own. -/
def dtag (t : TypeId) : Bool := t == 121 || t == 115 || t == 160 || t == 117 || t == 164 || t == 235
/-- All is as it was, but for blocks of some types and what is new. -/
structure Mv (p : TypeId → Bool) (w w' : World) : Prop where
  os : w'.os = w.os
  tape : w'.tape = w.tape
  output : w'.output = w.output
  size : w.heap.size ≤ w'.heap.size
  block : ∀ (k : Nat) (cs : Array Value) (t : TypeId), w.heap[k]? = some (Obj.cells cs t (0, 0)) → p t = false → w'.heap[k]? = w.heap[k]?
theorem Mv.of_below {p : TypeId → Bool} {w w' : World} (h : Below w.heap.size w w') : Mv p w w' := ⟨h.os, h.tape, h.output, h.size, fun k _ _ hk _ => h.block k (Array.getElem?_eq_some_iff.1 hk).1⟩
theorem Mv.trans {p : TypeId → Bool} {w w1 w2 : World} (h : Mv p w w1) (k : Mv p w1 w2) : Mv p w w2 :=
  ⟨k.os.trans h.os, k.tape.trans h.tape, k.output.trans h.output, Nat.le_trans h.size k.size, fun i cs t hi ht => by
    have h1 := h.block i cs t hi ht
    rw [← h1]
    exact k.block i cs t (by rw [h1]; exact hi) ht⟩
/-- The blocks that may be turned. -/
def chg (p : TypeId → Bool) (w : World) : List Nat := (List.range w.heap.size).filter fun k =>
  match w.heap[k]? with
  | some (.cells _ t (0, 0)) => p t
  | _ => true
theorem chg_no {p : TypeId → Bool} {w : World} {k : Nat} {cs : Array Value} {t : TypeId} (h : w.heap[k]? = some (.cells cs t (0, 0))) (ht : p t = false) : k ∉ chg p w := by
  unfold chg
  rw [List.mem_filter, h]
  simp [ht]
theorem Mv.stay {p : TypeId → Bool} {w w' : World} (h : Mv p w w') : Stay w w' (chg p w) := by
  refine ⟨h.os, h.tape, h.output, h.size, fun k hk hn => ?_⟩
  unfold chg at hn
  rw [List.mem_filter, not_and] at hn
  have h1 := hn (List.mem_range.2 hk)
  cases hc : w.heap[k]? with
  | none => rw [Array.getElem?_eq_none_iff] at hc; omega
  | some o =>
    rw [hc] at h1
    rw [← hc]
    split at h1
    · rename_i cs t e
      exact h.block k cs t (by rw [hc]; exact e) (by simpa using h1)
    · simp at h1
theorem OwnR.mv {p : TypeId → Bool} {w w' : World} {B : Nat} {e : TypeId} {s : Nat} {a : Option Addr} {n cap : Nat} {cs : List Value} (h : OwnR w B e s a n cap cs) (hm : Mv p w w') (he : p e = false) : OwnR w' B e s a n cap cs :=
  h.kept fun k hk => by
    obtain ⟨-, -, cur, h1⟩ := h.lt hk
    exact hm.block k cur e h1 he
theorem Leaf.tags {w : World} {B x : Nat} {f : Lf} (h : Leaf w B x f) : ∀ k ∈ f.fp, ∃ cs t, w.heap[k]? = some (.cells cs t (0, 0)) ∧ dtag t = true := by
  intro k hk
  rcases List.mem_cons.1 hk with rfl | hk
  · exact ⟨_, _, h.blk, rfl⟩
  rcases List.mem_cons.1 hk with rfl | hk
  · obtain ⟨-, -, cur, h1⟩ := OwnR.lt h.row (k := f.tb) rfl
    exact ⟨_, _, h1, rfl⟩
  · obtain ⟨t, ht, hk⟩ := List.mem_flatMap.1 hk
    have hT := h.tab t ht
    simp only [Tb.fp, List.mem_cons, List.not_mem_nil, or_false] at hk
    rcases hk with rfl | rfl
    · exact ⟨_, _, hT.top.blk, rfl⟩
    · obtain ⟨cs, h1, -⟩ := hT.row.ex
      exact ⟨_, _, h1, rfl⟩
theorem Dct.tags {w : World} {B d x : Nat} {D : Dg} (h : Dct w B d x D) : ∀ k ∈ D.fp d, ∃ cs t, w.heap[k]? = some (.cells cs t (0, 0)) ∧ dtag t = true := by
  intro k hk
  rcases List.mem_cons.1 hk with rfl | hk
  · exact ⟨_, _, h.blk, rfl⟩
  rcases List.mem_cons.1 hk with rfl | hk
  · obtain ⟨-, -, cur, h1⟩ := OwnR.lt h.row (k := D.pb) rfl
    exact ⟨_, _, h1, rfl⟩
  · obtain ⟨f, hf, hk⟩ := List.mem_flatMap.1 hk
    exact (h.leaf f hf).tags k hk
theorem Dct.mv {w w' : World} {B d x : Nat} {D : Dg} (h : Dct w B d x D) {p : TypeId → Bool} (hm : Mv p w w') (hp : ∀ t, dtag t = true → p t = false) : Dct w' B d x D :=
  h.stay hm.stay (fun k hk => by
    obtain ⟨cs, t, h1, h2⟩ := h.tags k hk
    exact chg_no h1 (hp t h2))
theorem Turn.mv {w w' : World} {B d x : Nat} {D D' : Dg} (h : Turn w w' B d x D D') (hD : Dct w B d x D) : Mv dtag w w' :=
  ⟨h.stay.os, h.stay.tape, h.stay.output, h.stay.size, fun k cs t hk ht => h.stay.block k (Array.getElem?_eq_some_iff.1 hk).1 (fun hm => by
    obtain ⟨cs', t', h1, h2⟩ := hD.tags k hm
    rw [h1] at hk
    simp at hk
    rw [hk.2] at h2
    rw [h2] at ht
    cases ht)⟩
/-- A dict at d by the seed x: its depth, its parts, what it has. -/
def Dic (w : World) (B d x g : Nat) (sh : List Pt) (es : List En) : Prop := ∃ D, Dct w B d x D ∧ D.g = g ∧ D.sh = sh ∧ D.es.Perm es
theorem Dic.keep {w wn : World} {B d x g : Nat} {sh : List Pt} {es : List En} (h : Dic w B d x g sh es) (hb : Below w.heap.size w wn) : Dic wn B d x g sh es := by
  obtain ⟨D, h1, h2, h3, h4⟩ := h
  exact ⟨D, h1.keep hb, h2, h3, h4⟩
theorem Dic.mv {w w' : World} {B d x g : Nat} {sh : List Pt} {es : List En} (h : Dic w B d x g sh es) {p : TypeId → Bool} (hm : Mv p w w') (hp : ∀ t, dtag t = true → p t = false) : Dic w' B d x g sh es := by
  obtain ⟨D, h1, h2, h3, h4⟩ := h
  exact ⟨D, h1.mv hm hp, h2, h3, h4⟩
theorem Dic.shp {w : World} {B d x g : Nat} {sh : List Pt} {es : List En} (h : Dic w B d x g sh es) : Shp g sh := by
  obtain ⟨D, h1, h2, h3, h4⟩ := h
  rw [← h2, ← h3]
  exact h1.shp
theorem Dic.perm {w : World} {B d x g : Nat} {sh : List Pt} {es fs : List En} (h : Dic w B d x g sh es) (hp : es.Perm fs) : Dic w B d x g sh fs := by
  obtain ⟨D, h1, h2, h3, h4⟩ := h
  exact ⟨D, h1, h2, h3, h4.trans hp⟩
/-- Keys of unlike leaves are unlike. -/
theorem Dct.nodk {w : World} {B d x : Nat} {D : Dg} (h : Dct w B d x D) : (keysOf D.es).Nodup := by
  have key : ∀ (M : List Lf), (∀ u ∈ M, u ∈ D.L) → M.Nodup → (keysOf (esL M)).Nodup := by
    intro M
    induction M with
    | nil => intro _ _; exact List.nodup_nil
    | cons f M ih =>
      intro hM hn
      rw [List.nodup_cons] at hn
      rw [esL_cons, keysOf_append, List.nodup_append]
      refine ⟨(h.leaf f (hM f (by simp))).key, ih (fun u hu => hM u (List.mem_cons_of_mem _ hu)) hn.2, ?_⟩
      intro a ha b hb e
      subst e
      obtain ⟨e1, h1, rfl⟩ := List.mem_map.1 ha
      obtain ⟨e2, h2, h3⟩ := List.mem_map.1 hb
      obtain ⟨u, hu, h4⟩ := List.mem_flatMap.1 h2
      have h5 := h.own f (hM f (by simp)) e1 h1
      have h6 := h.own u (hM u (List.mem_cons_of_mem _ hu)) e2 h4
      rw [h3] at h6
      exact hn.1 ((h.same (hM f (by simp)) (hM u (List.mem_cons_of_mem _ hu)) h5 h6) ▸ hu)
  refine key D.L (fun u hu => hu) ?_
  exact h.ord_perm.nodup_iff.1 (by
    have h1 := h.ord_perm
    unfold ordU List.Nodup
    rw [List.pairwise_filterMap]
    refine List.Pairwise.imp ?_ List.nodup_range
    intro i j hij u hu v hv e
    subst e
    have k1 : u.q = i := by simpa using List.find?_some hu
    have k2 : u.q = j := by simpa using List.find?_some hv
    exact hij (k1.symm.trans k2))
theorem Dic.nod {w : World} {B d x g : Nat} {sh : List Pt} {es : List En} (h : Dic w B d x g sh es) : (keysOf es).Nodup := by
  obtain ⟨D, h1, h2, h3, h4⟩ := h
  exact (h4.map (·.1)).nodup_iff.1 h1.nodk
theorem Dic.le {w : World} {B d x g : Nat} {sh : List Pt} {es : List En} (h : Dic w B d x g sh es) : es.length ≤ 1000000 := by
  obtain ⟨D, h1, h2, h3, h4⟩ := h
  rw [← h4.length_eq]
  exact h1.le
/-- A part that is not as deep as can be has no more keys than a table has room for. -/
theorem Dic.room {w : World} {B d x g : Nat} {sh : List Pt} {es : List En} (h : Dic w B d x g sh es) {s : Pt} (hs : s ∈ sh) (hl : s.1 < 16) : cntIn x (keysOf es) s ≤ 112 := by
  obtain ⟨D, h1, rfl, rfl, h4⟩ := h
  obtain ⟨f, hf, rfl⟩ := List.mem_map.1 hs
  obtain ⟨La, Lc, e⟩ := List.append_of_mem hf
  rw [← cntIn_perm (h4.map (·.1)), h1.cnt_of e]
  obtain ⟨t, ht⟩ := List.length_eq_one_iff.1 (h1.one f hf hl)
  have hT := (h1.leaf f hf).tab t (by rw [ht]; simp)
  have e2 : f.es = ents t.z := by unfold Lf.es; rw [ht, tsEs_one]; rfl
  rw [e2]
  have := hT.inv.room
  have := hT.inv.grp.le
  omega
/-- Is a key there? -/
def hasK (es : List En) (k : ByteArray) : Bool := es.any fun e => decide (e.1 = k)
theorem hasK_iff {es : List En} {k : ByteArray} : hasK es k = true ↔ k ∈ keysOf es := by
  unfold hasK
  rw [List.any_eq_true]
  constructor
  · rintro ⟨e, he, h⟩
    exact List.mem_map.2 ⟨e, he, of_decide_eq_true h⟩
  · intro h
    obtain ⟨e, he, h1⟩ := List.mem_map.1 h
    exact ⟨e, he, decide_eq_true h1⟩
theorem hasK_no {es : List En} {k : ByteArray} (h : k ∉ keysOf es) : hasK es k = false := by
  cases e : hasK es k with
  | false => rfl
  | true => exact absurd (hasK_iff.1 e) h
/-- What is there behind Put; behind Delete; what Get tells. -/
def putE (es : List En) (k : ByteArray) (v : Int) : List En := if hasK es k = true then es.map (fun e => if e.1 = k then (k, v) else e) else es ++ [(k, v)]
def delE (es : List En) (k : ByteArray) : List En := es.filter fun e => decide (e.1 ≠ k)
def getE (es : List En) (k : ByteArray) : Int := ((es.find? fun e => decide (e.1 = k)).map (·.2)).getD 0
theorem delE_perm {es fs : List En} (h : es.Perm fs) (k : ByteArray) : (delE es k).Perm (delE fs k) := h.filter _
theorem not_of_nodup {a c : List En} {k : ByteArray} {u : Int} (hn : (keysOf (a ++ (k, u) :: c)).Nodup) : k ∉ keysOf a ∧ k ∉ keysOf c := by
  rw [keysOf_append] at hn
  replace hn : (keysOf a ++ k :: keysOf c).Nodup := hn
  rw [List.nodup_append, List.nodup_cons] at hn
  exact ⟨fun h => hn.2.2 k h k (by simp) rfl, hn.2.1.1⟩
theorem map_same {a : List En} {k : ByteArray} {v : Int} (h : k ∉ keysOf a) : a.map (fun e => if e.1 = k then (k, v) else e) = a := by
  conv => rhs; rw [← List.map_id a]
  refine List.map_congr_left fun e he => ?_
  rw [if_neg (fun e2 => h (List.mem_map.2 ⟨e, he, e2⟩))]
  rfl
theorem filter_same {a : List En} {k : ByteArray} (h : k ∉ keysOf a) : delE a k = a := by
  unfold delE
  rw [List.filter_eq_self]
  intro e he
  exact decide_eq_true (fun e2 => h (List.mem_map.2 ⟨e, he, e2⟩))
theorem putE_old {a c : List En} {k : ByteArray} {u v : Int} (hn : (keysOf (a ++ (k, u) :: c)).Nodup) : putE (a ++ (k, u) :: c) k v = a ++ (k, v) :: c := by
  obtain ⟨h1, h2⟩ := not_of_nodup hn
  unfold putE
  rw [if_pos (hasK_iff.2 (by simp [keysOf])), List.map_append, List.map_cons, map_same h1, map_same h2, if_pos rfl]
theorem delE_old {a c : List En} {k : ByteArray} {u : Int} (hn : (keysOf (a ++ (k, u) :: c)).Nodup) : delE (a ++ (k, u) :: c) k = a ++ c := by
  obtain ⟨h1, h2⟩ := not_of_nodup hn
  have e1 := filter_same h1
  have e2 := filter_same h2
  unfold delE at e1 e2 ⊢
  rw [List.filter_append, List.filter_cons_of_neg (by simp), e1, e2]
theorem key_split {es : List En} {k : ByteArray} (h : k ∈ keysOf es) : ∃ a u c, es = a ++ (k, u) :: c := by
  obtain ⟨⟨k', u⟩, he, rfl⟩ := List.mem_map.1 h
  obtain ⟨a, c, e⟩ := List.append_of_mem he
  exact ⟨a, u, c, e⟩
theorem getE_mem {es : List En} (hn : (keysOf es).Nodup) {k : ByteArray} {v : Int} (h : (k, v) ∈ es) : getE es k = v := by
  unfold getE
  have hs : (es.find? fun e => decide (e.1 = k)).isSome = true := by rw [List.find?_isSome]; exact ⟨_, h, by simp⟩
  obtain ⟨e, he⟩ := Option.isSome_iff_exists.1 hs
  have h1 := List.mem_of_find?_eq_some he
  have h2 : e.1 = k := by simpa using List.find?_some he
  rw [he]
  obtain ⟨k', u⟩ := e
  simp only at h2
  subst h2
  exact val_one hn h1 h
theorem getE_none {es : List En} {k : ByteArray} (h : k ∉ keysOf es) : getE es k = 0 := by
  unfold getE
  rw [List.find?_eq_none.2]
  · rfl
  · intro e he hd
    exact h (List.mem_map.2 ⟨e, he, by simpa using hd⟩)
theorem PutD (B d x : Nat) (D : Dg) (k : ByteArray) (v : Int) (w : World) (hD : Dct w B d x D) (hks : k.size ≤ maxLen) (hle : D.es.length < 1000000) :
    Calls Tryz.prog 85 #[ptr d, .string k, .int .u64 v] w fun e w' => e = .returned (.int .i64 0) ∧ ∃ D', Turn w w' B d x D D' ∧ D'.es.Perm (putE D.es k v) := by
  by_cases h : k ∈ keysOf D.es
  · obtain ⟨a, u, c, e⟩ := key_split h
    refine (PutD_old B d x D k u v w hD (by rw [e]; simp)).mono ?_
    rintro en w' ⟨rfl, D', hT, -, -, A, C, e1, e2⟩
    refine ⟨rfl, D', hT, ?_⟩
    have hn := hD.nodk
    rw [e1] at hn ⊢
    rw [putE_old hn, e2]
  · refine (PutD_new B d x D k v w hD hks h hle).mono ?_
    rintro en w' ⟨rfl, D', hT, -, hp⟩
    refine ⟨rfl, D', hT, ?_⟩
    unfold putE
    rw [if_neg (by rw [hasK_no h]; decide)]
    exact hp
theorem GetD (B d x : Nat) (D : Dg) (k : ByteArray) (w : World) (hD : Dct w B d x D) (hks : k.size ≤ maxLen) :
    Calls Tryz.prog 84 #[ptr d, .string k] w fun e w' => e = .returned (.tuple #[.int .u64 (getE D.es k), .bool (hasK D.es k)]) ∧ Below w.heap.size w w' := by
  by_cases h : k ∈ keysOf D.es
  · obtain ⟨a, u, c, e⟩ := key_split h
    have hm : (k, u) ∈ D.es := by rw [e]; simp
    rw [hasK_iff.2 h, getE_mem hD.nodk hm]
    exact Get_dsome B d x D k u w hD hks hm
  · rw [hasK_no h, getE_none h]
    exact Get_dnone B d x D k w hD hks h
theorem getE_perm {es fs : List En} (h : es.Perm fs) (hn : (keysOf es).Nodup) (k : ByteArray) : getE es k = getE fs k := by
  by_cases hk : k ∈ keysOf es
  · obtain ⟨a, u, c, e⟩ := key_split hk
    have hm : (k, u) ∈ es := by rw [e]; simp
    rw [getE_mem hn hm, getE_mem ((h.map (·.1)).nodup_iff.1 hn) (h.mem_iff.1 hm)]
  · rw [getE_none hk, getE_none (fun h2 => hk ((h.map (·.1)).mem_iff.2 h2))]
end Go.Proofs.YtnajhjmdpaeelaaGreatDoor.Zs.Dk
