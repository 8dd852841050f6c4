/-
  Put, Delete and Get as functions of what is there; two dicts, side by side.
-/
import Derived.Test.YtejnmikbbnckeaaKn
namespace Go.Proofs.Ytejnmikbbnckeaa
open Go.RowKit Go.PlainAid

/-- Is a key there? -/
def hasK (es : List En) (k : ByteArray) : Bool := es.any fun e => decide (e.1 = k)
theorem hasK_iff {es : List En} {k : ByteArray} : hasK es k = true ↔ k ∈ keysOf es := by
  unfold hasK
  rw [List.any_eq_true]
  constructor
  · rintro ⟨e, he, h⟩
    exact List.mem_map.2 ⟨e, he, of_decide_eq_true h⟩
  · intro h
    obtain ⟨e, he, h1⟩ := List.mem_map.1 h
    exact ⟨e, he, decide_eq_true h1⟩
theorem hasK_no {es : List En} {k : ByteArray} (h : k ∉ keysOf es) : hasK es k = false := by
  cases e : hasK es k with
  | false => rfl
  | true => exact absurd (hasK_iff.1 e) h
theorem hasK_perm {es fs : List En} (h : es.Perm fs) (k : ByteArray) : hasK es k = hasK fs k := by
  cases e : hasK fs k with
  | true => exact hasK_iff.2 ((h.map (·.1)).mem_iff.2 (hasK_iff.1 e))
  | false => exact hasK_no (fun h2 => by have := hasK_iff.2 ((h.map (·.1)).mem_iff.1 h2); rw [e] at this; cases this)
/-- What is there behind Put; behind Delete; what Get tells. -/
def putE (es : List En) (k : ByteArray) (v : Int) : List En := if hasK es k = true then es.map (fun e => if e.1 = k then (k, v) else e) else es ++ [(k, v)]
def delE (es : List En) (k : ByteArray) : List En := es.filter fun e => decide (e.1 ≠ k)
def getE (es : List En) (k : ByteArray) : Int := ((es.find? fun e => decide (e.1 = k)).map (·.2)).getD 0
theorem putE_perm {es fs : List En} (h : es.Perm fs) (k : ByteArray) (v : Int) : (putE es k v).Perm (putE fs k v) := by
  unfold putE
  rw [hasK_perm h]
  split
  · exact h.map _
  · exact h.append_right _
theorem delE_perm {es fs : List En} (h : es.Perm fs) (k : ByteArray) : (delE es k).Perm (delE fs k) := h.filter _
theorem putE_len (es : List En) (k : ByteArray) (v : Int) : (putE es k v).length ≤ es.length + 1 := by
  unfold putE
  split
  · rw [List.length_map]; omega
  · rw [List.length_append]; simp
theorem delE_len (es : List En) (k : ByteArray) : (delE es k).length ≤ es.length := List.length_filter_le _ _
theorem not_of_nodup {a c : List En} {k : ByteArray} {u : Int} (hn : (keysOf (a ++ (k, u) :: c)).Nodup) : k ∉ keysOf a ∧ k ∉ keysOf c := by
  rw [keysOf_append] at hn
  replace hn : (keysOf a ++ k :: keysOf c).Nodup := hn
  rw [List.nodup_append, List.nodup_cons] at hn
  exact ⟨fun h => hn.2.2 k h k (by simp) rfl, hn.2.1.1⟩
theorem map_same {a : List En} {k : ByteArray} {v : Int} (h : k ∉ keysOf a) : a.map (fun e => if e.1 = k then (k, v) else e) = a := by
  conv => rhs; rw [← List.map_id a]
  refine List.map_congr_left fun e he => ?_
  rw [if_neg (fun e2 => h (List.mem_map.2 ⟨e, he, e2⟩))]
  rfl
theorem filter_same {a : List En} {k : ByteArray} (h : k ∉ keysOf a) : delE a k = a := by
  unfold delE
  rw [List.filter_eq_self]
  intro e he
  exact decide_eq_true (fun e2 => h (List.mem_map.2 ⟨e, he, e2⟩))
theorem putE_old {a c : List En} {k : ByteArray} {u v : Int} (hn : (keysOf (a ++ (k, u) :: c)).Nodup) : putE (a ++ (k, u) :: c) k v = a ++ (k, v) :: c := by
  obtain ⟨h1, h2⟩ := not_of_nodup hn
  unfold putE
  rw [if_pos (hasK_iff.2 (by simp [keysOf])), List.map_append, List.map_cons, map_same h1, map_same h2, if_pos rfl]
theorem delE_old {a c : List En} {k : ByteArray} {u : Int} (hn : (keysOf (a ++ (k, u) :: c)).Nodup) : delE (a ++ (k, u) :: c) k = a ++ c := by
  obtain ⟨h1, h2⟩ := not_of_nodup hn
  have e1 := filter_same h1
  have e2 := filter_same h2
  unfold delE at e1 e2 ⊢
  rw [List.filter_append, List.filter_cons_of_neg (by simp), e1, e2]
theorem key_split {es : List En} {k : ByteArray} (h : k ∈ keysOf es) : ∃ a u c, es = a ++ (k, u) :: c := by
  obtain ⟨⟨k', u⟩, he, rfl⟩ := List.mem_map.1 h
  obtain ⟨a, c, e⟩ := List.append_of_mem he
  exact ⟨a, u, c, e⟩
theorem getE_mem {es : List En} (hn : (keysOf es).Nodup) {k : ByteArray} {v : Int} (h : (k, v) ∈ es) : getE es k = v := by
  unfold getE
  have hs : (es.find? fun e => decide (e.1 = k)).isSome = true := by rw [List.find?_isSome]; exact ⟨_, h, by simp⟩
  obtain ⟨e, he⟩ := Option.isSome_iff_exists.1 hs
  have h1 := List.mem_of_find?_eq_some he
  have h2 : e.1 = k := by simpa using List.find?_some he
  rw [he]
  obtain ⟨k', u⟩ := e
  simp only at h2
  subst h2
  exact val_one hn h1 h
theorem getE_none {es : List En} {k : ByteArray} (h : k ∉ keysOf es) : getE es k = 0 := by
  unfold getE
  rw [List.find?_eq_none.2]
  · rfl
  · intro e he hd
    exact h (List.mem_map.2 ⟨e, he, by simpa using hd⟩)

theorem PutD (B d x : Nat) (D : Dg) (k : ByteArray) (v : Int) (w : World) (hD : Dct w B d x D) (hks : k.size ≤ maxLen) (hle : D.es.length < 1000000) :
    Calls Try.prog 13 #[ptr d, .string k, .int .i64 v] w fun e w' => e = .returned (.int .i64 0) ∧ ∃ D', Turn w w' B d x D D' ∧ D'.es.Perm (putE D.es k v) := by
  by_cases h : k ∈ keysOf D.es
  · obtain ⟨a, u, c, e⟩ := key_split h
    refine (PutD_old B d x D k u v w hD (by rw [e]; simp)).mono ?_
    rintro en w' ⟨rfl, D', hT, -, -, A, C, e1, e2⟩
    refine ⟨rfl, D', hT, ?_⟩
    have hn := hD.nodk
    rw [e1] at hn ⊢
    rw [putE_old hn, e2]
  · refine (PutD_new B d x D k v w hD hks h hle).mono ?_
    rintro en w' ⟨rfl, D', hT, -, hp⟩
    refine ⟨rfl, D', hT, ?_⟩
    unfold putE
    rw [if_neg (by rw [hasK_no h]; decide)]
    exact hp
theorem DelD (B d x : Nat) (D : Dg) (k : ByteArray) (w : World) (hD : Dct w B d x D) (hks : k.size ≤ maxLen) :
    Calls Try.prog 29 #[ptr d, .string k] w fun e w' => e = .returned (.bool (hasK D.es k)) ∧ ∃ D', Turn w w' B d x D D' ∧ D'.es.Perm (delE D.es k) := by
  by_cases h : k ∈ keysOf D.es
  · rw [hasK_iff.2 h]
    refine (DeleteD_yes B d x D k w hD h).mono ?_
    rintro en w' ⟨rfl, D', hT, -, -, u, hp⟩
    refine ⟨rfl, D', hT, ?_⟩
    have h1 := delE_perm hp k
    have hn : (keysOf ([] ++ (k, u) :: D'.es)).Nodup := (hp.map (·.1)).nodup_iff.1 hD.nodk
    have h2 := delE_old hn
    rw [List.nil_append] at h2
    rw [h2] at h1
    exact h1.symm
  · rw [hasK_no h]
    refine (DeleteD_no B d x D k w hD hks h).mono ?_
    rintro en w' ⟨rfl, hb⟩
    exact ⟨rfl, D, Turn.refl hD hb, by rw [filter_same h]⟩
theorem GetD (B d x : Nat) (D : Dg) (k : ByteArray) (w : World) (hD : Dct w B d x D) (hks : k.size ≤ maxLen) :
    Calls Try.prog 30 #[ptr d, .string k] w fun e w' => e = .returned (.tuple #[.int .i64 (getE D.es k), .bool (hasK D.es k)]) ∧ Below w.heap.size w w' := by
  by_cases h : k ∈ keysOf D.es
  · obtain ⟨a, u, c, e⟩ := key_split h
    have hm : (k, u) ∈ D.es := by rw [e]; simp
    rw [hasK_iff.2 h, getE_mem hD.nodk hm]
    exact Get_dsome B d x D k u w hD hks hm
  · rw [hasK_no h, getE_none h]
    exact Get_dnone B d x D k w hD hks h

/-- Two dicts, side by side: what each has. -/
def Pr (w : World) (B d x : Nat) (e1 : List En) (d' y : Nat) (e2 : List En) : Prop := ∃ D1 D2, Dct w B d x D1 ∧ Dct w B d' y D2 ∧ D1.es.Perm e1 ∧ D2.es.Perm e2 ∧ (∀ j ∈ D1.fp d, j ∉ D2.fp d')
theorem Pr.symm {w : World} {B d x d' y : Nat} {e1 e2 : List En} (h : Pr w B d x e1 d' y e2) : Pr w B d' y e2 d x e1 := by
  obtain ⟨D1, D2, h1, h2, h3, h4, h5⟩ := h
  exact ⟨D2, D1, h2, h1, h4, h3, fun j hj hj2 => h5 j hj2 hj⟩
theorem Pr.keep {w wn : World} {B d x d' y : Nat} {e1 e2 : List En} (h : Pr w B d x e1 d' y e2) (hb : Below w.heap.size w wn) : Pr wn B d x e1 d' y e2 := by
  obtain ⟨D1, D2, h1, h2, h3, h4, h5⟩ := h
  exact ⟨D1, D2, h1.keep hb, h2.keep hb, h3, h4, h5⟩
theorem Pr.turn {w w' : World} {B d x d' y : Nat} {D1 D1' D2 : Dg} {e1 e2 : List En} (h1 : Dct w B d x D1) (h2 : Dct w B d' y D2) (h5 : ∀ j ∈ D1.fp d, j ∉ D2.fp d') (hT : Turn w w' B d x D1 D1') (p1 : D1'.es.Perm e1) (p2 : D2.es.Perm e2) : Pr w' B d x e1 d' y e2 ∧ Below B w w' := by
  refine ⟨⟨D1', D2, hT.dct, h2.stay hT.stay (fun k hk hk2 => h5 k hk2 hk), p1, p2, fun j hj hj2 => ?_⟩, hT.below h1⟩
  rcases hT.fps j hj with h | h
  · exact h5 j h hj2
  · have := (h2.fplt j hj2).2; omega
theorem Pr.put (B d x d' y : Nat) (e1 e2 : List En) (k : ByteArray) (v : Int) (w : World) (h : Pr w B d x e1 d' y e2) (hks : k.size ≤ maxLen) (hle : e1.length < 1000000) :
    Calls Try.prog 13 #[ptr d, .string k, .int .i64 v] w fun e w' => e = .returned (.int .i64 0) ∧ Pr w' B d x (putE e1 k v) d' y e2 ∧ Below B w w' := by
  obtain ⟨D1, D2, h1, h2, h3, h4, h5⟩ := h
  refine (PutD B d x D1 k v w h1 hks (by rw [h3.length_eq]; exact hle)).mono ?_
  rintro e w' ⟨rfl, D', hT, hp⟩
  exact ⟨rfl, Pr.turn h1 h2 h5 hT (hp.trans (putE_perm h3 k v)) h4⟩
theorem Pr.del (B d x d' y : Nat) (e1 e2 : List En) (k : ByteArray) (w : World) (h : Pr w B d x e1 d' y e2) (hks : k.size ≤ maxLen) :
    Calls Try.prog 29 #[ptr d, .string k] w fun e w' => e = .returned (.bool (hasK e1 k)) ∧ Pr w' B d x (delE e1 k) d' y e2 ∧ Below B w w' := by
  obtain ⟨D1, D2, h1, h2, h3, h4, h5⟩ := h
  rw [← hasK_perm h3]
  refine (DelD B d x D1 k w h1 hks).mono ?_
  rintro e w' ⟨rfl, D', hT, hp⟩
  exact ⟨rfl, Pr.turn h1 h2 h5 hT (hp.trans (delE_perm h3 k)) h4⟩
theorem getE_perm {es fs : List En} (h : es.Perm fs) (hn : (keysOf es).Nodup) (k : ByteArray) : getE es k = getE fs k := by
  by_cases hk : k ∈ keysOf es
  · obtain ⟨a, u, c, e⟩ := key_split hk
    have hm : (k, u) ∈ es := by rw [e]; simp
    rw [getE_mem hn hm, getE_mem ((h.map (·.1)).nodup_iff.1 hn) (h.mem_iff.1 hm)]
  · rw [getE_none hk, getE_none (fun h2 => hk ((h.map (·.1)).mem_iff.2 h2))]
theorem Pr.get (B d x d' y : Nat) (e1 e2 : List En) (k : ByteArray) (w : World) (h : Pr w B d x e1 d' y e2) (hks : k.size ≤ maxLen) :
    Calls Try.prog 30 #[ptr d, .string k] w fun e w' => e = .returned (.tuple #[.int .i64 (getE e1 k), .bool (hasK e1 k)]) ∧ Below w.heap.size w w' := by
  obtain ⟨D1, D2, h1, h2, h3, h4, h5⟩ := h
  rw [← hasK_perm h3, ← getE_perm h3 h1.nodk]
  exact GetD B d x D1 k w h1 hks
theorem Pr.len (B d x d' y : Nat) (e1 e2 : List En) (w : World) (h : Pr w B d x e1 d' y e2) : Calls Try.prog 31 #[ptr d] w fun e w' => e = .returned (.int .i64 (e1.length : Nat)) ∧ w' = w := by
  obtain ⟨D1, D2, h1, h2, h3, h4, h5⟩ := h
  rw [← h3.length_eq]
  exact Len_dict B d x D1 w h1
theorem Pr.keys (B d x d' y : Nat) (e1 e2 : List En) (w : World) (h : Pr w B d x e1 d' y e2) : Calls Try.prog 27 #[ptr d] w fun e w' => Below w.heap.size w w' ∧ ∃ a n c ks, e = .returned (.slice a n c) ∧ OwnS w' w.heap.size a n c ks ∧ ks.Perm (keysOf e1) := by
  obtain ⟨D1, D2, h1, h2, h3, h4, h5⟩ := h
  exact DKeys B d x D1.g D1.sh e1 w ⟨D1, h1, rfl, rfl, h3⟩
end Go.Proofs.Ytejnmikbbnckeaa
