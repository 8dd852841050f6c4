/-
  A leaf with one table turned; add.
-/
import Derived.Test.YtejnmikbbnckeaaDel
namespace Go.Proofs.Ytejnmikbbnckeaa
open Go.RowKit Go.PlainAid

theorem nodup_replace {xs ys : List Nat} {b b' : Nat} (h : (xs ++ b :: ys).Nodup) (h1 : b' ∉ xs) (h2 : b' ∉ ys) : (xs ++ b' :: ys).Nodup := by
  rw [List.nodup_append, List.nodup_cons] at h ⊢
  obtain ⟨k1, ⟨k2, k3⟩, k4⟩ := h
  refine ⟨k1, ⟨h2, k3⟩, fun a ha c hc => ?_⟩
  rcases List.mem_cons.1 hc with rfl | hc
  · rintro rfl; exact h1 ha
  · exact k4 a ha c (List.mem_cons_of_mem _ hc)
theorem fp_parts {f : Lf} {pre post : List Tb} {t : Tb} (e : f.ts = pre ++ t :: post) : f.fp = (f.a :: f.tb :: tsFp pre ++ [t.p]) ++ t.b :: tsFp post := by
  unfold Lf.fp
  rw [e, tsFp_append, tsFp_cons]
  simp
/-- What holds of another table's blocks. -/
theorem fp_apart {f : Lf} {pre post : List Tb} {t : Tb} (hn : f.fp.Nodup) (e : f.ts = pre ++ t :: post) : f.a ∉ [t.p, t.b] ∧ f.tb ∉ [t.p, t.b] ∧ (∀ u ∈ pre, u.p ∉ [t.p, t.b] ∧ u.b ∉ [t.p, t.b]) ∧ (∀ u ∈ post, u.p ∉ [t.p, t.b] ∧ u.b ∉ [t.p, t.b]) := by
  unfold Lf.fp at hn
  rw [e, tsFp_append, tsFp_cons, List.nodup_cons, List.nodup_cons, List.nodup_append, List.nodup_cons, List.nodup_cons] at hn
  obtain ⟨h1, h2, h3, ⟨h4, h5, h6⟩, h7⟩ := hn
  simp only [List.mem_cons, List.mem_append, not_or] at h1 h2 h4
  refine ⟨?_, ?_, ?_, ?_⟩
  · simp only [List.mem_cons, List.not_mem_nil, or_false, not_or]; exact ⟨h1.2.2.1, h1.2.2.2.1⟩
  · simp only [List.mem_cons, List.not_mem_nil, or_false, not_or]; exact ⟨h2.2.1, h2.2.2.1⟩
  · intro u hu
    have hm := mem_tsFp hu
    simp only [List.mem_cons, List.not_mem_nil, or_false, not_or]
    exact ⟨⟨h7 _ hm.1 _ (by simp), h7 _ hm.1 _ (by simp)⟩, h7 _ hm.2 _ (by simp), h7 _ hm.2 _ (by simp)⟩
  · intro u hu
    have hm := mem_tsFp hu
    simp only [List.mem_cons, List.not_mem_nil, or_false, not_or]
    exact ⟨⟨fun e => h4.2 (e ▸ hm.1), fun e => h5 (e ▸ hm.1)⟩, fun e => h4.2 (e ▸ hm.2), fun e => h5 (e ▸ hm.2)⟩
theorem Leaf.turn {w w' : World} {B x : Nat} {f : Lf} {pre post : List Tb} {t : Tb} {b' G' : Nat} {z' : List Cl} (h : Leaf w B x f) (e : f.ts = pre ++ t :: post) (hs : Stay w w' [t.p, t.b]) (hT : Tab w' B t.p b' x G' z') (hb : b' = t.b ∨ w.heap.size ≤ b')
    (hk : (keysOf (tsEs (pre ++ ⟨t.p, b', G', z'⟩ :: post))).Nodup) :
    Leaf w' B x { f with ts := pre ++ ⟨t.p, b', G', z'⟩ :: post } ∧ (∀ j ∈ ({ f with ts := pre ++ ⟨t.p, b', G', z'⟩ :: post } : Lf).fp, j ∈ f.fp ∨ w.heap.size ≤ j) ∧ Stay w w' f.fp := by
  obtain ⟨h1, h2, h3, h4⟩ := fp_apart h.nod e
  have hlen : (pre ++ (⟨t.p, b', G', z'⟩ : Tb) :: post).length = f.ts.length := by rw [e]; simp
  have hps : (pre ++ (⟨t.p, b', G', z'⟩ : Tb) :: post).map (·.p) = f.ts.map (·.p) := by rw [e]; simp
  have hfp : ({ f with ts := pre ++ ⟨t.p, b', G', z'⟩ :: post } : Lf).fp = (f.a :: f.tb :: tsFp pre ++ [t.p]) ++ b' :: tsFp post := fp_parts (f := { f with ts := pre ++ ⟨t.p, b', G', z'⟩ :: post }) rfl
  have hfp0 := fp_parts e
  have hlt := h.fplt
  refine ⟨⟨?_, ?_, ?_, h.low, ?_, hk, ?_⟩, ?_, hs.mono ?_⟩
  · show w'.heap[f.a]? = some (.cells #[.int .i64 (f.l : Nat), .slice (some ⟨f.tb, 0, none⟩) (pre ++ (⟨t.p, b', G', z'⟩ : Tb) :: post).length f.cap] 84 (0, 0))
    rw [hlen, hs.block f.a h.lt h1]
    exact h.blk
  · show OwnP w' B 59 (some ⟨f.tb, 0, none⟩) (pre ++ (⟨t.p, b', G', z'⟩ : Tb) :: post).length f.cap ((pre ++ (⟨t.p, b', G', z'⟩ : Tb) :: post).map (·.p))
    rw [hlen, hps]
    exact OwnR.stay h.row hs (fun k hk => by cases hk; exact h2)
  · intro u hu
    rcases List.mem_append.1 hu with hu | hu
    · exact (h.tab u (by rw [e]; simp [hu])).stay hs (h3 u hu).1 (h3 u hu).2
    · rcases List.mem_cons.1 hu with rfl | hu
      · exact hT
      · exact (h.tab u (by rw [e]; simp [hu])).stay hs (h4 u hu).1 (h4 u hu).2
  · rw [hfp]
    have hn := h.nod
    rw [hfp0] at hn hlt
    rcases hb with rfl | hb
    · exact hn
    · exact nodup_replace hn (fun hm => by have := hlt b' (List.mem_append.2 (.inl hm)); omega) (fun hm => by have := hlt b' (List.mem_append.2 (.inr (List.mem_cons_of_mem _ hm))); omega)
  · show 0 < (pre ++ (⟨t.p, b', G', z'⟩ : Tb) :: post).length
    rw [hlen]; exact h.pos
  · intro j hj
    rw [hfp] at hj
    rw [hfp0]
    rcases List.mem_append.1 hj with hj | hj
    · exact .inl (List.mem_append.2 (.inl hj))
    · rcases List.mem_cons.1 hj with rfl | hj
      · rcases hb with rfl | hb
        · exact .inl (by simp)
        · exact .inr hb
      · exact .inl (List.mem_append.2 (.inr (List.mem_cons_of_mem _ hj)))
  · intro j hj
    rw [hfp0]
    simp only [List.mem_cons, List.not_mem_nil, or_false] at hj
    rcases hj with rfl | rfl <;> simp

/-- No table of a leaf has nothing, but where it is the only one. -/
def Ful (f : Lf) : Prop := f.ts.length = 1 ∨ ∀ t ∈ f.ts, 0 < t.es.length
theorem Ful.le {f : Lf} (h : Ful f) : f.ts.length ≤ f.es.length + 1 := by
  rcases h with h | h
  · omega
  · unfold Lf.es
    generalize f.ts = ts at h
    have : ts.length ≤ (tsEs ts).length := by
      induction ts with
      | nil => exact Nat.zero_le _
      | cons t ts ih =>
        have h1 := h t (by simp)
        have h2 := ih (fun u hu => h u (List.mem_cons_of_mem _ hu))
        rw [tsEs_cons, List.length_append, List.length_cons]
        omega
    omega
/-- What becomes of a leaf: it lies in what was its own, and in new memory. -/
structure Grew (w w' : World) (B x : Nat) (f f' : Lf) : Prop where
  leaf : Leaf w' B x f'
  stay : Stay w w' f.fp
  fps : ∀ j ∈ f'.fp, j ∈ f.fp ∨ w.heap.size ≤ j
  l : f'.l = f.l
  q : f'.q = f.q
  a : f'.a = f.a
theorem Grew.first {w w0 w' : World} {B x : Nat} {f f' : Lf} (h : Grew w w' B x f f') (hb : Below w0.heap.size w0 w) : Grew w0 w' B x f f' :=
  ⟨h.leaf, (Stay.of_below hb f.fp).trans h.stay (fun _ hi => .inl hi), fun j hj => (h.fps j hj).imp id (fun k => Nat.le_trans hb.size k), h.l, h.q, h.a⟩

theorem keys_nodup_add {es es' : List En} {k : ByteArray} {v : Int} (hn : (keysOf es).Nodup) (hk : k ∉ keysOf es) (hp : es'.Perm (es ++ [(k, v)])) : (keysOf es').Nodup := by
  have h1 := (hp.map (·.1)).nodup_iff
  refine h1.2 ?_
  rw [List.map_append, List.nodup_append]
  refine ⟨hn, by simp, fun a ha b hb => ?_⟩
  simp at hb
  subst hb
  rintro rfl
  exact hk ha
theorem mid_perm {pre post : List Tb} {t t' : Tb} {e : List En} (hp : t'.es.Perm (t.es ++ e)) : (tsEs (pre ++ t' :: post)).Perm (tsEs (pre ++ t :: post) ++ e) := by
  rw [tsEs_append, tsEs_append, tsEs_cons, tsEs_cons, List.append_assoc]
  refine List.Perm.append_left _ ?_
  refine (hp.append_right _).trans ?_
  rw [List.append_assoc, List.append_assoc]
  exact List.Perm.append_left _ List.perm_append_comm
theorem not_in_tab {f : Lf} {t : Tb} {k : ByteArray} (hk : k ∉ keysOf f.es) (ht : t ∈ f.ts) : k ∉ (ents t.z).map (·.1) := fun h => hk (by
  obtain ⟨e, he, h1⟩ := List.mem_map.1 h
  exact List.mem_map.2 ⟨e, List.mem_flatMap.2 ⟨t, ht, he⟩, h1⟩)
theorem get_parts {α : Type} {l : List α} {i : Nat} {t : α} (h : l[i]? = some t) : l = l.take i ++ t :: l.drop (i + 1) := by
  obtain ⟨h1, h2⟩ := List.getElem?_eq_some_iff.1 h
  conv => lhs; rw [← List.take_append_drop i l, List.drop_eq_getElem_cons h1, h2]

/-- One table more, behind the others. -/
theorem Leaf.more {w w3 : World} {B x : Nat} {f : Lf} {g3 c3 p b G : Nat} {z : List Cl} (h : Leaf w B x f) (hg : w.grownBy w3 (some f.tb)) (hO : OwnP w3 B 59 (some ⟨g3, 0, none⟩) (f.ts.length + 1) c3 (f.ts.map (·.p) ++ [p])) (hgo : g3 = f.tb ∨ w.heap.size ≤ g3)
    (hT : Tab w B p b x G z) (hp : p ∉ f.fp) (hb : b ∉ f.fp) (hk : (keysOf (f.es ++ ents z)).Nodup) :
    Leaf (w3.setCell ⟨f.a, 1, none⟩ (.slice (some ⟨g3, 0, none⟩) (f.ts.length + 1) c3)) B x { f with tb := g3, cap := c3, ts := f.ts ++ [⟨p, b, G, z⟩] } ∧ (∀ j ∈ ({ f with tb := g3, cap := c3, ts := f.ts ++ [⟨p, b, G, z⟩] } : Lf).fp, j ∈ f.fp ∨ w.heap.size ≤ j ∨ j = p ∨ j = b) := by
  have hpb := hT.top.ne hT.row
  have hnod := h.nod
  have hlt := h.fplt
  have hpl := hT.top.lt
  have hbl := hT.row.lt
  have hfa : f.a ∈ f.fp := by simp [Lf.fp]
  have hft : f.tb ∈ f.fp := by simp [Lf.fp]
  have hfu : ∀ j ∈ tsFp f.ts, j ∈ f.fp := fun j hj => List.mem_cons_of_mem _ (List.mem_cons_of_mem _ hj)
  have hn := h.nod
  unfold Lf.fp at hn
  rw [List.nodup_cons, List.nodup_cons] at hn
  obtain ⟨n1, n2, n3⟩ := hn
  rw [List.mem_cons, not_or] at n1
  have hS : Stay w w3 [f.tb] := Stay.grown hg (fun g e => by cases e; simp)
  have hS2 : Stay w (w3.setCell ⟨f.a, 1, none⟩ (.slice (some ⟨g3, 0, none⟩) (f.ts.length + 1) c3)) [f.tb, f.a] :=
    (hS.mono (by simp)).trans Stay.set (fun i hi => .inl (by simp at hi; simp [hi]))
  have hblk3 : w3.heap[f.a]? = some (.cells #[.int .i64 (f.l : Nat), .slice (some ⟨f.tb, 0, none⟩) f.ts.length f.cap] 84 (0, 0)) := by
    rw [hS.block f.a h.lt (by simpa using n1.1)]; exact h.blk
  have ga : g3 ≠ f.a := by
    rcases hgo with rfl | hgo
    · exact fun e => n1.1 e.symm
    · have := (hlt f.a hfa).2; omega
  have gt : g3 ∉ tsFp f.ts := by
    rcases hgo with rfl | hgo
    · exact n2
    · intro hm; have := (hlt g3 (hfu _ hm)).2; omega
  have gp : g3 ≠ p ∧ g3 ≠ b := by
    rcases hgo with rfl | hgo
    · exact ⟨fun e => hp (e ▸ hft), fun e => hb (e ▸ hft)⟩
    · exact ⟨by omega, by omega⟩
  refine ⟨⟨?_, ?_, ?_, h.low, ?_, ?_, ?_⟩, ?_⟩
  · show (w3.setCell ⟨f.a, 1, none⟩ _).heap[f.a]? = some (.cells #[.int .i64 (f.l : Nat), .slice (some ⟨g3, 0, none⟩) (f.ts ++ [(⟨p, b, G, z⟩ : Tb)]).length c3] 84 (0, 0))
    rw [heap_set hblk3, List.length_append]
    rfl
  · show OwnP _ B 59 (some ⟨g3, 0, none⟩) (f.ts ++ [(⟨p, b, G, z⟩ : Tb)]).length c3 ((f.ts ++ [(⟨p, b, G, z⟩ : Tb)]).map (·.p))
    rw [List.length_append, List.map_append]
    exact OwnR.stay hO (Stay.set (q := f.a)) (fun k hk => by cases hk; simpa using ga)
  · intro u hu
    rcases List.mem_append.1 hu with hu | hu
    · have hm := mem_tsFp hu
      refine (h.tab u hu).stay hS2 ?_ ?_
      · simp only [List.mem_cons, List.not_mem_nil, or_false, not_or]
        exact ⟨fun e => n2 (e ▸ hm.1), fun e => n1.2 (e ▸ hm.1)⟩
      · simp only [List.mem_cons, List.not_mem_nil, or_false, not_or]
        exact ⟨fun e => n2 (e ▸ hm.2), fun e => n1.2 (e ▸ hm.2)⟩
    · cases List.mem_singleton.1 hu
      refine hT.stay hS2 ?_ ?_
      · simp only [List.mem_cons, List.not_mem_nil, or_false, not_or]
        exact ⟨fun e => hp (e ▸ hft), fun e => hp (e ▸ hfa)⟩
      · simp only [List.mem_cons, List.not_mem_nil, or_false, not_or]
        exact ⟨fun e => hb (e ▸ hft), fun e => hb (e ▸ hfa)⟩
  · show (f.a :: g3 :: tsFp (f.ts ++ [(⟨p, b, G, z⟩ : Tb)])).Nodup
    rw [tsFp_append, tsFp_cons]
    show (f.a :: g3 :: (tsFp f.ts ++ [p, b])).Nodup
    rw [List.nodup_cons, List.nodup_cons, List.nodup_append]
    refine ⟨?_, ?_, n3, ?_, ?_⟩
    · simp only [List.mem_cons, List.mem_append, List.not_mem_nil, or_false, not_or]
      exact ⟨fun e => ga e.symm, n1.2, fun e => hp (e ▸ hfa), fun e => hb (e ▸ hfa)⟩
    · simp only [List.mem_cons, List.mem_append, List.not_mem_nil, or_false, not_or]
      exact ⟨gt, gp.1, gp.2⟩
    · simp [hpb]
    · intro a ha c hc
      simp only [List.mem_cons, List.not_mem_nil, or_false] at hc
      rcases hc with rfl | rfl
      · rintro rfl; exact hp (hfu _ ha)
      · rintro rfl; exact hb (hfu _ ha)
  · show (keysOf (tsEs (f.ts ++ [(⟨p, b, G, z⟩ : Tb)]))).Nodup
    rw [tsEs_append, tsEs_one]
    exact hk
  · show 0 < (f.ts ++ [(⟨p, b, G, z⟩ : Tb)]).length
    rw [List.length_append]; exact Nat.lt_of_lt_of_le h.pos (Nat.le_add_right _ _)
  · intro j hj
    change j ∈ f.a :: g3 :: tsFp (f.ts ++ [(⟨p, b, G, z⟩ : Tb)]) at hj
    rw [tsFp_append, tsFp_cons] at hj
    simp only [List.mem_cons, List.mem_append] at hj
    rcases hj with rfl | rfl | hj | rfl | rfl | hj
    · exact .inl hfa
    · exact hgo.elim (fun e => .inl (e ▸ hft)) (fun e => .inr (.inl e))
    · exact .inl (hfu _ hj)
    · exact .inr (.inr (.inl rfl))
    · exact .inr (.inr (.inr rfl))
    · simp [tsFp] at hj

/-- A leaf with one key more. -/
def Added (w w' : World) (B x : Nat) (f : Lf) (k : ByteArray) (v : Int) : Prop :=
  ∃ f', Grew w w' B x f f' ∧ f'.es.Perm (f.es ++ [(k, v)]) ∧ (f.ts.length = 1 → f.es.length < 112 → f'.ts.length = 1) ∧ (Ful f → Ful f')

set_option maxRecDepth 100000 in
set_option maxHeartbeats 4000000 in
theorem add_leaf (B x : Nat) (f : Lf) (k : ByteArray) (v : Int) (w : World) (hL : Leaf w B x f) (hx : x < 18446744073709551616) (hks : k.size ≤ maxLen) (hk : k ∉ keysOf f.es) (hn : f.ts.length ≤ 10000000) (hB : B ≤ w.heap.size) :
    Calls Try.prog 44 #[ptr f.a, .int .u64 x, .string k, .int .i64 v] w fun e w' => e = .returned (.tuple #[]) ∧ Added w w' B x f k v := by
  have HL : Hid (Leaf w B x f) := hL
  have hc := hL.tabs
  have HK : Hid (k ∉ keysOf f.es) := hk
  have HKS : Hid (k.size ≤ maxLen) := hks
  have HX : Hid (x < 18446744073709551616) := hx
  have HBs : Hid (B ≤ w.heap.size) := hB
  generalize hm : f.ts.length = m at hc hn
  have HM : Hid (f.ts.length = m) := hm
  clear hL hm hk hks hx hB
  go_enter Try.func44, Try.ntmps44
  go_wp2
  go_loopg [9, 16] m (fun q tv iv wr => ∃ i : Nat, i + q = m ∧ iv = .int .i64 i ∧ Hid (∀ t ∈ f.ts.take i, 112 ≤ t.es.length) ∧ Hid (Below w.heap.size w wr))
  case atStart => exact ⟨0, by omega, rfl, (by simp : ∀ t ∈ f.ts.take 0, 112 ≤ t.es.length), Below.refl _ _⟩
  case round =>
    obtain ⟨i, hi, rfl, HFu, HB⟩ := hrel
    by_cases h8 : (i : Int) < m
    · obtain ⟨t, ht, htm⟩ := get_of_lt (l := f.ts) (i := i) (by have := HM.out; omega)
      have hcc := (HL.out.keep HB.out).at ht
      have HTab : Hid (Tab wr B t.p t.b x t.G t.z) := (HL.out.keep HB.out).tab t htm
      have HIn := not_in_tab HK.out htm
      by_cases hfull : 112 ≤ (ents t.z).length
      · have hP := Put_full _ _ _ _ _ _ k v _ HTab.out HKS.out HIn hfull
        have HFu1 : Hid (∀ t ∈ f.ts.take (i + 1), 112 ≤ t.es.length) := by
          show ∀ t ∈ f.ts.take (i + 1), 112 ≤ t.es.length
          rw [take_more ht]
          intro u hu
          rcases List.mem_append.1 hu with hu | hu
          · exact HFu.out u hu
          · rw [List.mem_singleton.1 hu]; exact hfull
        clear ht htm HIn hfull
        go_wp2_with fail
        refine hP.mono ?_
        rintro e w1 ⟨rfl, hb1⟩
        have HB1 := step_below HB hb1
        clear hb1 hP
        go_wp2
        go_roundg (gk - 1)
        case measure => omega
        case rel => exact ⟨i + 1, by omega, by go_num, HFu1, HB1⟩
      · have hP := Put_new _ _ _ _ _ _ k v _ HTab.out HKS.out HIn (by omega)
        have HG : Hid (f.ts = f.ts.take i ++ t :: f.ts.drop (i + 1)) := get_parts ht
        clear ht htm HIn hfull
        go_wp2_with fail
        refine hP.mono ?_
        rintro e w1 ⟨rfl, hm1, b1, G1, z1, hT1, hb1, hp1⟩
        have HR : Hid (Added w w1 B x f k v) := by
          have hpm : (tsEs (f.ts.take i ++ ⟨t.p, b1, G1, z1⟩ :: f.ts.drop (i + 1))).Perm (f.es ++ [(k, v)]) := by
            have := mid_perm (pre := f.ts.take i) (post := f.ts.drop (i + 1)) (t := t) (t' := ⟨t.p, b1, G1, z1⟩) hp1
            rw [← HG.out] at this
            exact this
          obtain ⟨k1, k2, k3⟩ := (HL.out.keep HB.out).turn HG.out (Stay.of_moves hm1) hT1 hb1 (keys_nodup_add HL.out.key HK.out hpm)
          exact ⟨_, (⟨k1, k3, k2, rfl, rfl, rfl⟩ : Grew wr w1 B x f _).first HB.out, hpm, fun h _ => by
            have := congrArg List.length HG.out
            rw [h] at this
            simp at this ⊢
            omega, fun h => .inr fun u hu => by
              rcases List.mem_append.1 hu with hu | hu
              · have := HFu.out u hu; omega
              · rcases List.mem_cons.1 hu with rfl | hu
                · have := hp1.length_eq
                  rw [List.length_append] at this
                  show 0 < (ents z1).length
                  simp at this
                  omega
                · rcases h with h | h
                  · have h9 := congrArg List.length HG.out
                    rw [h] at h9
                    have h10 : 0 < (f.ts.drop (i + 1)).length := List.length_pos_of_mem hu
                    simp at h9 h10
                    omega
                  · exact h u (by rw [HG.out]; simp [hu])⟩
        clear hm1 hT1 hb1 hp1 hP
        go_wp2
        refine bodyPost_ret (results_none rfl _ _ _) rfl ?_
        exact ⟨rfl, HR.out⟩
    · have HFu2 : Hid (∀ t ∈ f.ts, 112 ≤ t.es.length) := by
        have := HFu.out
        rw [List.take_of_length_le (by have := HM.out; omega)] at this
        exact this
      have hNew := New_tab x wr HX.out
      go_wp2_with fail
      refine hNew.mono ?_
      rintro e w1 ⟨hb1, p, b, rfl, hT1, -⟩
      have HB1 := step_below HB hb1
      have HTl : Hid (wr.heap.size ≤ p ∧ wr.heap.size ≤ b) := ⟨hT1.low, hT1.lowb⟩
      have hP := Put_new _ _ _ _ _ _ k v _ hT1 HKS.out (by rw [ents_news0]; simp) (by rw [ents_news0]; decide)
      have HT1 : Hid (Tab w1 wr.heap.size p b x 1 (news0 1)) := hT1
      have HS1 : Hid (wr.heap.size ≤ w1.heap.size) := hb1.size
      clear hb1 hT1 hNew
      go_wp2_with fail
      refine hP.mono ?_
      rintro e w2 ⟨rfl, hm2, b2, G2, z2, hT2, hb2, hp2⟩
      rw [ents_news0, List.nil_append] at hp2
      have HP2 : Hid ((ents z2).Perm [(k, v)]) := hp2
      have HBw : Hid (w.heap.size ≤ wr.heap.size) := HB.out.size
      have HT2 : Hid (Tab w2 B p b2 x G2 z2) := hT2.lower (Nat.le_trans HBs.out HBw.out)
      have HTl2 : Hid (wr.heap.size ≤ p ∧ wr.heap.size ≤ b2) := ⟨HTl.out.1, by have := HTl.out.2; have := HS1.out; rcases hb2 with rfl | h <;> omega⟩
      have HB2 : Hid (Below w.heap.size w w2) := HB1.out.trans ((Stay.of_moves hm2).below (by intro i hi; simp at hi; have := HTl.out; have := HBw.out; rcases hi with rfl | rfl <;> omega) HB1.out.size)
      clear hm2 hT2 hb2 hp2 hP HT1
      obtain ⟨w3, hw3⟩ : ∃ w3, w2.alloc (.cells #[ptr p] 59) = w3 := ⟨_, rfl⟩
      obtain ⟨g, hg⟩ : ∃ g, w2.heap.size = g := ⟨_, rfl⟩
      have HB3' : Hid (Below w2.heap.size w2 w3) := by show Below _ _ _; rw [← hw3]; exact alloc_below w2 _
      have hc3 : w3.cell? ⟨g, 0, none⟩ = some (ptr p) := by rw [← hw3, ← hg]; simp only [World.cell?, heap_alloc_new]; rfl
      have HB3 := step_below HB2 HB3'.out
      have HT3 : Hid (Tab w3 B p b2 x G2 z2) := HT2.out.keep HB3'.out
      have HL3 : Hid (Leaf w3 B x f) := HL.out.keep HB3.out
      have hL3 := HL3.out.tabs
      rw [HM.out] at hL3
      have hL2 := (HL.out.keep HB2.out).tabs
      rw [HM.out] at hL2
      have HO3 : Hid (OwnP w3 B 59 (some ⟨f.tb, 0, none⟩) m f.cap (f.ts.map (·.p))) := by have := HL3.out.row; rw [HM.out] at this; exact this
      have HNm : Hid (m ≤ 10000000) := hn
      clear HB3' HTl HFu HT2 hc
      go_wp2_with (at_builtin; refine append_r rfl (.tmp 36) (.tmp 38) rfl eltT B rfl HO3.out [ptr p] rfl rfl (by intro j u hu; cases j with | zero => (rw [add_flat, hc3]; exact hu) | succ j => simp at hu) (by simp [Value.oneCell']) (by decide) (by have := HNm.out; omega) (by have := HNm.out; unfold maxLen; omega) (Nat.le_trans HBs.out HB3.out.size) ?_; intro a4 n4 c4 w4 hn4 HO4 HG4 HW4; have hc4 : w4.cell? ⟨f.a, 1, none⟩ = some (.slice (some ⟨f.tb, 0, none⟩) m f.cap) := (by rw [World.cell?_of_block (HG4.out.block f.a HL3.out.lt (by intro e; have h := HL3.out.nod; unfold Lf.fp at h; simp at e; simp [e] at h))]; exact hL3); have hf4 : w4.frozen? ⟨f.a, 1, none⟩ = false := (by have := HG4.out.block f.a HL3.out.lt (by intro e; have h := HL3.out.nod; unfold Lf.fp at h; simp at e; simp [e] at h); rw [HL3.out.blk] at this; simp [World.frozen?, this]))
      go_end0
      refine ⟨rfl, ?_⟩
      have hO4 := HO4.out
      have hG4 := HG4.out
      have hW4 := HW4.out
      obtain ⟨g4, rfl, -⟩ := OwnR.at hO4 (by omega)
      have hlt := (HL.out.keep HB.out).fplt
      have hgo : g4 = f.tb ∨ w3.heap.size ≤ g4 := by
        rcases hW4 with h | h
        · simp at h; exact .inl h
        · simp at h; exact .inr (by omega)
      have hpm : (f.es ++ ents z2).Perm (f.es ++ [(k, v)]) := List.Perm.append_left _ HP2.out
      have hp : p ∉ f.fp := fun h => by have := (hlt p h).2; have := HTl2.out.1; omega
      have hb : b2 ∉ f.fp := fun h => by have := (hlt b2 h).2; have := HTl2.out.2; omega
      rw [hn4, ← HM.out] at hO4
      rw [← HM.out]
      obtain ⟨k1, k2⟩ := HL3.out.more hG4 (by unfold OwnP; rw [pcells_append]; exact hO4) hgo HT3.out hp hb (keys_nodup_add HL.out.key HK.out hpm)
      refine ⟨_, ⟨k1, ?_, ?_, rfl, rfl, rfl⟩, ?_, ?_, ?_⟩
      · refine (Stay.of_below HB3.out f.fp).trans (M' := [f.tb, f.a]) (((Stay.grown hG4 (M := [f.tb, f.a]) (fun g e => by simp at e; simp [e]))).trans Stay.set (fun i hi => .inl (by simp at hi; simp [hi]))) (fun i hi => .inl (by simp at hi; rcases hi with rfl | rfl <;> simp [Lf.fp]))
      · intro j hj
        have h1 := HTl2.out
        have h2 := HBw.out
        have h3 := HB3.out.size
        rcases k2 j hj with h | h | rfl | rfl
        · exact .inl h
        · exact .inr (by omega)
        · exact .inr (by omega)
        · exact .inr (by omega)
      · show (tsEs (f.ts ++ [(⟨p, b2, G2, z2⟩ : Tb)])).Perm _
        rw [tsEs_append, tsEs_one]
        exact hpm
      · intro h1 h2
        obtain ⟨t, ht⟩ := List.length_eq_one_iff.1 h1
        have h3 := HFu2.out t (by simp [ht])
        have h4 : f.es = t.es := by unfold Lf.es; rw [ht, tsEs_one]
        rw [h4] at h2
        omega
      · intro _
        refine .inr fun u hu => ?_
        rcases List.mem_append.1 hu with hu | hu
        · have := HFu2.out u hu; omega
        · cases List.mem_singleton.1 hu
          have := HP2.out.length_eq
          show 0 < (ents z2).length
          simp at this
          omega
end Go.Proofs.Ytejnmikbbnckeaa
