/-
  What a call may turn, told by the blocks' types; a dict as what it has: its depth, its parts, its entries in whatever order.
-/
import Derived.Test.YtejnmikbbnckeaaNam
namespace Go.Proofs.Ytejnmikbbnckeaa
open Go.RowKit Go.PlainAid

/-- The types of a dict's blocks; those of the document's own. -/
def dtag (t : TypeId) : Bool := t == 63 || t == 57 || t == 84 || t == 59 || t == 88 || t == 96
def rtag (t : TypeId) : Bool := t == 68 || t == 65
/-- All is as it was, but for blocks of some types and what is new. -/
structure Mv (p : TypeId → Bool) (w w' : World) : Prop where
  os : w'.os = w.os
  tape : w'.tape = w.tape
  output : w'.output = w.output
  size : w.heap.size ≤ w'.heap.size
  block : ∀ (k : Nat) (cs : Array Value) (t : TypeId), w.heap[k]? = some (Obj.cells cs t (0, 0)) → p t = false → w'.heap[k]? = w.heap[k]?
theorem Mv.of_below {p : TypeId → Bool} {w w' : World} (h : Below w.heap.size w w') : Mv p w w' := ⟨h.os, h.tape, h.output, h.size, fun k _ _ hk _ => h.block k (Array.getElem?_eq_some_iff.1 hk).1⟩
theorem Mv.trans {p : TypeId → Bool} {w w1 w2 : World} (h : Mv p w w1) (k : Mv p w1 w2) : Mv p w w2 :=
  ⟨k.os.trans h.os, k.tape.trans h.tape, k.output.trans h.output, Nat.le_trans h.size k.size, fun i cs t hi ht => by
    have h1 := h.block i cs t hi ht
    rw [← h1]
    exact k.block i cs t (by rw [h1]; exact hi) ht⟩
/-- The blocks that may be turned. -/
def chg (p : TypeId → Bool) (w : World) : List Nat := (List.range w.heap.size).filter fun k =>
  match w.heap[k]? with
  | some (.cells _ t (0, 0)) => p t
  | _ => true
theorem chg_no {p : TypeId → Bool} {w : World} {k : Nat} {cs : Array Value} {t : TypeId} (h : w.heap[k]? = some (.cells cs t (0, 0))) (ht : p t = false) : k ∉ chg p w := by
  unfold chg
  rw [List.mem_filter, h]
  simp [ht]
theorem Mv.stay {p : TypeId → Bool} {w w' : World} (h : Mv p w w') : Stay w w' (chg p w) := by
  refine ⟨h.os, h.tape, h.output, h.size, fun k hk hn => ?_⟩
  unfold chg at hn
  rw [List.mem_filter, not_and] at hn
  have h1 := hn (List.mem_range.2 hk)
  cases hc : w.heap[k]? with
  | none => rw [Array.getElem?_eq_none_iff] at hc; omega
  | some o =>
    rw [hc] at h1
    rw [← hc]
    split at h1
    · rename_i cs t e
      exact h.block k cs t (by rw [hc]; exact e) (by simpa using h1)
    · simp at h1
theorem OwnR.mv {p : TypeId → Bool} {w w' : World} {B : Nat} {e : TypeId} {s : Nat} {a : Option Addr} {n cap : Nat} {cs : List Value} (h : OwnR w B e s a n cap cs) (hm : Mv p w w') (he : p e = false) : OwnR w' B e s a n cap cs :=
  h.kept fun k hk => by
    obtain ⟨-, -, cur, h1⟩ := h.lt hk
    exact hm.block k cur e h1 he

theorem Leaf.tags {w : World} {B x : Nat} {f : Lf} (h : Leaf w B x f) : ∀ k ∈ f.fp, ∃ cs t, w.heap[k]? = some (.cells cs t (0, 0)) ∧ dtag t = true := by
  intro k hk
  rcases List.mem_cons.1 hk with rfl | hk
  · exact ⟨_, _, h.blk, rfl⟩
  rcases List.mem_cons.1 hk with rfl | hk
  · obtain ⟨-, -, cur, h1⟩ := OwnR.lt h.row (k := f.tb) rfl
    exact ⟨_, _, h1, rfl⟩
  · obtain ⟨t, ht, hk⟩ := List.mem_flatMap.1 hk
    have hT := h.tab t ht
    simp only [Tb.fp, List.mem_cons, List.not_mem_nil, or_false] at hk
    rcases hk with rfl | rfl
    · exact ⟨_, _, hT.top.blk, rfl⟩
    · obtain ⟨cs, h1, -⟩ := hT.row.ex
      exact ⟨_, _, h1, rfl⟩
theorem Dct.tags {w : World} {B d x : Nat} {D : Dg} (h : Dct w B d x D) : ∀ k ∈ D.fp d, ∃ cs t, w.heap[k]? = some (.cells cs t (0, 0)) ∧ dtag t = true := by
  intro k hk
  rcases List.mem_cons.1 hk with rfl | hk
  · exact ⟨_, _, h.blk, rfl⟩
  rcases List.mem_cons.1 hk with rfl | hk
  · obtain ⟨-, -, cur, h1⟩ := OwnR.lt h.row (k := D.pb) rfl
    exact ⟨_, _, h1, rfl⟩
  · obtain ⟨f, hf, hk⟩ := List.mem_flatMap.1 hk
    exact (h.leaf f hf).tags k hk
theorem Dct.mv {w w' : World} {B d x : Nat} {D : Dg} (h : Dct w B d x D) {p : TypeId → Bool} (hm : Mv p w w') (hp : ∀ t, dtag t = true → p t = false) : Dct w' B d x D :=
  h.stay hm.stay (fun k hk => by
    obtain ⟨cs, t, h1, h2⟩ := h.tags k hk
    exact chg_no h1 (hp t h2))
theorem Turn.mv {w w' : World} {B d x : Nat} {D D' : Dg} (h : Turn w w' B d x D D') (hD : Dct w B d x D) : Mv dtag w w' :=
  ⟨h.stay.os, h.stay.tape, h.stay.output, h.stay.size, fun k cs t hk ht => h.stay.block k (Array.getElem?_eq_some_iff.1 hk).1 (fun hm => by
    obtain ⟨cs', t', h1, h2⟩ := hD.tags k hm
    rw [h1] at hk
    simp at hk
    rw [hk.2] at h2
    rw [h2] at ht
    cases ht)⟩
theorem dtag_rtag : ∀ t, dtag t = true → rtag t = false := by
  intro t h
  unfold dtag at h
  unfold rtag
  simp only [Bool.or_eq_true, beq_iff_eq] at h
  rcases h with ((((rfl | rfl) | rfl) | rfl) | rfl) | rfl <;> rfl

/-- A dict at d by the seed x: its depth, its parts, what it has. -/
def Dic (w : World) (B d x g : Nat) (sh : List Pt) (es : List En) : Prop := ∃ D, Dct w B d x D ∧ D.g = g ∧ D.sh = sh ∧ D.es.Perm es
theorem Dic.keep {w wn : World} {B d x g : Nat} {sh : List Pt} {es : List En} (h : Dic w B d x g sh es) (hb : Below w.heap.size w wn) : Dic wn B d x g sh es := by
  obtain ⟨D, h1, h2, h3, h4⟩ := h
  exact ⟨D, h1.keep hb, h2, h3, h4⟩
theorem Dic.mv {w w' : World} {B d x g : Nat} {sh : List Pt} {es : List En} (h : Dic w B d x g sh es) {p : TypeId → Bool} (hm : Mv p w w') (hp : ∀ t, dtag t = true → p t = false) : Dic w' B d x g sh es := by
  obtain ⟨D, h1, h2, h3, h4⟩ := h
  exact ⟨D, h1.mv hm hp, h2, h3, h4⟩
theorem Dic.shp {w : World} {B d x g : Nat} {sh : List Pt} {es : List En} (h : Dic w B d x g sh es) : Shp g sh := by
  obtain ⟨D, h1, h2, h3, h4⟩ := h
  rw [← h2, ← h3]
  exact h1.shp
theorem Dic.perm {w : World} {B d x g : Nat} {sh : List Pt} {es fs : List En} (h : Dic w B d x g sh es) (hp : es.Perm fs) : Dic w B d x g sh fs := by
  obtain ⟨D, h1, h2, h3, h4⟩ := h
  exact ⟨D, h1, h2, h3, h4.trans hp⟩
/-- Keys of unlike leaves are unlike. -/
theorem Dct.nodk {w : World} {B d x : Nat} {D : Dg} (h : Dct w B d x D) : (keysOf D.es).Nodup := by
  have key : ∀ (M : List Lf), (∀ u ∈ M, u ∈ D.L) → M.Nodup → (keysOf (esL M)).Nodup := by
    intro M
    induction M with
    | nil => intro _ _; exact List.nodup_nil
    | cons f M ih =>
      intro hM hn
      rw [List.nodup_cons] at hn
      rw [esL_cons, keysOf_append, List.nodup_append]
      refine ⟨(h.leaf f (hM f (by simp))).key, ih (fun u hu => hM u (List.mem_cons_of_mem _ hu)) hn.2, ?_⟩
      intro a ha b hb e
      subst e
      obtain ⟨e1, h1, rfl⟩ := List.mem_map.1 ha
      obtain ⟨e2, h2, h3⟩ := List.mem_map.1 hb
      obtain ⟨u, hu, h4⟩ := List.mem_flatMap.1 h2
      have h5 := h.own f (hM f (by simp)) e1 h1
      have h6 := h.own u (hM u (List.mem_cons_of_mem _ hu)) e2 h4
      rw [h3] at h6
      exact hn.1 ((h.same (hM f (by simp)) (hM u (List.mem_cons_of_mem _ hu)) h5 h6) ▸ hu)
  refine key D.L (fun u hu => hu) ?_
  exact h.ord_perm.nodup_iff.1 (by
    have h1 := h.ord_perm
    unfold ordU List.Nodup
    rw [List.pairwise_filterMap]
    refine List.Pairwise.imp ?_ List.nodup_range
    intro i j hij u hu v hv e
    subst e
    have k1 : u.q = i := by simpa using List.find?_some hu
    have k2 : u.q = j := by simpa using List.find?_some hv
    exact hij (k1.symm.trans k2))
theorem Dic.nod {w : World} {B d x g : Nat} {sh : List Pt} {es : List En} (h : Dic w B d x g sh es) : (keysOf es).Nodup := by
  obtain ⟨D, h1, h2, h3, h4⟩ := h
  exact (h4.map (·.1)).nodup_iff.1 h1.nodk
theorem Dic.le {w : World} {B d x g : Nat} {sh : List Pt} {es : List En} (h : Dic w B d x g sh es) : es.length ≤ 1000000 := by
  obtain ⟨D, h1, h2, h3, h4⟩ := h
  rw [← h4.length_eq]
  exact h1.le

theorem DNew (x : Nat) (w : World) (hx : x < 18446744073709551616) : Calls Try.prog 9 #[.int .u64 x] w fun e w' => Below w.heap.size w w' ∧ ∃ d, e = .returned (ptr d) ∧ Dic w' w.heap.size d x 0 [(0, 0)] [] := by
  refine (New_dict x w hx).mono ?_
  rintro e w' ⟨hb, d, D, rfl, h1, h2, h3, h4⟩
  exact ⟨hb, d, rfl, D, h1, h2, h3, by rw [h4]⟩
theorem DPut_new (B d x g : Nat) (sh : List Pt) (es : List En) (k : ByteArray) (v : Int) (w : World) (hD : Dic w B d x g sh es) (hks : k.size ≤ maxLen) (hk : k ∉ keysOf es) (hle : es.length < 1000000) :
    Calls Try.prog 13 #[ptr d, .string k, .int .i64 v] w fun e w' => e = .returned (.int .i64 0) ∧ Below B w w' ∧ Mv dtag w w' ∧ Dic w' B d x (grow x (keysOf es) (hsh x k) 17 g sh).1 (grow x (keysOf es) (hsh x k) 17 g sh).2 (es ++ [(k, v)]) := by
  obtain ⟨D, h1, rfl, rfl, h4⟩ := hD
  refine (PutD_new B d x D k v w h1 hks (fun hm => hk ((h4.map (·.1)).mem_iff.1 hm)) (by rw [h4.length_eq]; exact hle)).mono ?_
  rintro e w' ⟨rfl, D', hT, hg, hp⟩
  rw [grow_perm (h4.map (·.1))] at hg
  refine ⟨rfl, hT.below h1, hT.mv h1, D', hT.dct, ?_, ?_, hp.trans (h4.append_right _)⟩
  · rw [← hg]
  · rw [← hg]
theorem DPut_old (B d x g : Nat) (sh : List Pt) (a c : List En) (k : ByteArray) (u v : Int) (w : World) (hD : Dic w B d x g sh (a ++ (k, u) :: c)) :
    Calls Try.prog 13 #[ptr d, .string k, .int .i64 v] w fun e w' => e = .returned (.int .i64 0) ∧ Below B w w' ∧ Mv dtag w w' ∧ Dic w' B d x g sh (a ++ (k, v) :: c) := by
  obtain ⟨D, h1, rfl, rfl, h4⟩ := hD
  refine (PutD_old B d x D k u v w h1 (h4.mem_iff.2 (by simp))).mono ?_
  rintro e w' ⟨rfl, D', hT, hg, hsh, A, C, e1, e2⟩
  refine ⟨rfl, hT.below h1, hT.mv h1, D', hT.dct, hg, hsh, ?_⟩
  rw [e1] at h4
  rw [e2]
  have h5 : (A ++ C).Perm (a ++ c) := List.Perm.cons_inv (List.perm_middle.symm.trans (h4.trans List.perm_middle))
  exact List.perm_middle.trans ((h5.cons _).trans List.perm_middle.symm)
theorem DGet_some (B d x g : Nat) (sh : List Pt) (es : List En) (k : ByteArray) (v : Int) (w : World) (hD : Dic w B d x g sh es) (hks : k.size ≤ maxLen) (hk : (k, v) ∈ es) :
    Calls Try.prog 30 #[ptr d, .string k] w fun e w' => e = .returned (.tuple #[.int .i64 v, .bool true]) ∧ Below w.heap.size w w' := by
  obtain ⟨D, h1, rfl, rfl, h4⟩ := hD
  exact Get_dsome B d x D k v w h1 hks (h4.mem_iff.2 hk)
theorem DGet_none (B d x g : Nat) (sh : List Pt) (es : List En) (k : ByteArray) (w : World) (hD : Dic w B d x g sh es) (hks : k.size ≤ maxLen) (hk : k ∉ keysOf es) :
    Calls Try.prog 30 #[ptr d, .string k] w fun e w' => e = .returned (.tuple #[.int .i64 0, .bool false]) ∧ Below w.heap.size w w' := by
  obtain ⟨D, h1, rfl, rfl, h4⟩ := hD
  exact Get_dnone B d x D k w h1 hks (fun hm => hk ((h4.map (·.1)).mem_iff.1 hm))
theorem DDelete_no (B d x g : Nat) (sh : List Pt) (es : List En) (k : ByteArray) (w : World) (hD : Dic w B d x g sh es) (hks : k.size ≤ maxLen) (hk : k ∉ keysOf es) :
    Calls Try.prog 29 #[ptr d, .string k] w fun e w' => e = .returned (.bool false) ∧ Below w.heap.size w w' := by
  obtain ⟨D, h1, rfl, rfl, h4⟩ := hD
  exact DeleteD_no B d x D k w h1 hks (fun hm => hk ((h4.map (·.1)).mem_iff.1 hm))
theorem DDelete_yes (B d x g : Nat) (sh : List Pt) (a c : List En) (k : ByteArray) (u : Int) (w : World) (hD : Dic w B d x g sh (a ++ (k, u) :: c)) :
    Calls Try.prog 29 #[ptr d, .string k] w fun e w' => e = .returned (.bool true) ∧ Below B w w' ∧ Mv dtag w w' ∧ Dic w' B d x g sh (a ++ c) := by
  obtain ⟨D, h1, rfl, rfl, h4⟩ := hD
  refine (DeleteD_yes B d x D k w h1 ((h4.map (·.1)).mem_iff.2 (by simp))).mono ?_
  rintro e w' ⟨rfl, D', hT, hg, hsh, u', hp⟩
  refine ⟨rfl, hT.below h1, hT.mv h1, D', hT.dct, hg, hsh, ?_⟩
  have hu : u' = u := val_one h1.nodk (k := k) (hp.mem_iff.2 (by simp)) (h4.mem_iff.2 (by simp))
  subst hu
  exact List.Perm.cons_inv (hp.symm.trans (h4.trans List.perm_middle))
theorem DLen (B d x g : Nat) (sh : List Pt) (es : List En) (w : World) (hD : Dic w B d x g sh es) : Calls Try.prog 31 #[ptr d] w fun e w' => e = .returned (.int .i64 (es.length : Nat)) ∧ w' = w := by
  obtain ⟨D, h1, rfl, rfl, h4⟩ := hD
  rw [← h4.length_eq]
  exact Len_dict B d x D w h1
theorem DDepth (B d x g : Nat) (sh : List Pt) (es : List En) (w : World) (hD : Dic w B d x g sh es) : Calls Try.prog 16 #[ptr d] w fun e w' => e = .returned (.int .i64 (g : Nat)) ∧ w' = w := by
  obtain ⟨D, h1, rfl, rfl, h4⟩ := hD
  exact Depth_any B d x D w h1
theorem DTables (B d x g : Nat) (sh : List Pt) (es : List En) (w : World) (hD : Dic w B d x g sh es) : Calls Try.prog 32 #[ptr d] w fun e w' => e = .returned (.int .i64 (sh.length : Nat)) ∧ Below w.heap.size w w' := by
  obtain ⟨D, h1, rfl, rfl, h4⟩ := hD
  have : D.sh.length = D.L.length := List.length_map ..
  rw [this]
  exact Tables_any B d x D w h1
theorem DKeys (B d x g : Nat) (sh : List Pt) (es : List En) (w : World) (hD : Dic w B d x g sh es) : Calls Try.prog 27 #[ptr d] w fun e w' => Below w.heap.size w w' ∧ ∃ a n c ks, e = .returned (.slice a n c) ∧ OwnS w' w.heap.size a n c ks ∧ ks.Perm (keysOf es) := by
  obtain ⟨D, h1, rfl, rfl, h4⟩ := hD
  refine (Keys_dict B d x D w h1).mono ?_
  rintro e w' ⟨hb, a, n, c, rfl, hO⟩
  exact ⟨hb, a, n, c, _, rfl, hO, ((h1.ord_perm.flatMap_right Lf.es).trans h4).map (·.1)⟩
theorem bkt_perm {x g : Nat} {ks ks' : List ByteArray} (h : ks.Perm ks') (c : Nat) : (bkt x g ks c).Perm (bkt x g ks' c) := h.filter _
theorem DBucket (B d x g : Nat) (sh : List Pt) (es : List En) (c : Nat) (w : World) (hD : Dic w B d x g sh es) (hc : c < 18446744073709551616) :
    Calls Try.prog 20 #[ptr d, .int .u64 c] w fun e w' => Below w.heap.size w w' ∧ ∃ a n cp ks, e = .returned (.slice a n cp) ∧ OwnS w' w.heap.size a n cp ks ∧ ks.Perm (bkt x g (keysOf es) c) := by
  obtain ⟨D, h1, rfl, rfl, h4⟩ := hD
  refine (Bucket_dict B d x D c w h1 hc).mono ?_
  rintro e w' ⟨hb, a, n, cp, rfl, hO⟩
  exact ⟨hb, a, n, cp, _, rfl, hO, bkt_perm (h4.map (·.1)) c⟩
theorem scanP_perm {x g : Nat} {ks ks' : List ByteArray} (h : ks.Perm ks') (cnt : Nat) : ∀ n acc acc' c, acc.Perm acc' → (scanP x g ks cnt n acc c).1.Perm (scanP x g ks' cnt n acc' c).1 ∧ (scanP x g ks cnt n acc c).2 = (scanP x g ks' cnt n acc' c).2
  | 0, acc, acc', c, ha => ⟨ha, rfl⟩
  | n + 1, acc, acc', c, ha => by
    have h1 : (acc ++ bkt x g ks c).Perm (acc' ++ bkt x g ks' c) := ha.append (bkt_perm h c)
    rw [scanP, scanP, h1.length_eq]
    split
    · exact ⟨h1, rfl⟩
    · exact scanP_perm h cnt n _ _ _ h1
theorem DScan (B d x g : Nat) (sh : List Pt) (es : List En) (c : Nat) (count : Int) (w : World) (hD : Dic w B d x g sh es) (hc : c < 18446744073709551616) :
    Calls Try.prog 26 #[ptr d, .int .u64 c, .int .i64 count] w fun e w' => Below w.heap.size w w' ∧ ∃ a n cp ks, e = .returned (.tuple #[.slice a n cp, .int .u64 ((scanP x g (keysOf es) (cntC count) (10 * cntC count) [] c).2 : Nat)]) ∧ OwnS w' w.heap.size a n cp ks ∧ ks.Perm (scanP x g (keysOf es) (cntC count) (10 * cntC count) [] c).1 := by
  obtain ⟨D, h1, rfl, rfl, h4⟩ := hD
  have hp := scanP_perm (x := x) (g := D.g) (h4.map (·.1)) (cntC count) (10 * cntC count) [] [] c (List.Perm.refl _)
  refine (Scan_dict B d x D c count w h1 hc).mono ?_
  rintro e w' ⟨hb, a, n, cp, rfl, hO⟩
  exact ⟨hb, a, n, cp, _, by rw [hp.2], hO, hp.1⟩
end Go.Proofs.Ytejnmikbbnckeaa
