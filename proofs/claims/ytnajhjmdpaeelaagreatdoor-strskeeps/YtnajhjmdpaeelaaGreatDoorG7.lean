/- Texts that the others stand on. -/
import Derived.Test.YtnajhjmdpaeelaaGreatDoorG6
namespace Go.Proofs.YtnajhjmdpaeelaaGreatDoor.Dk
open Go.RowKit Go.PlainAid
theorem nodup_replace {xs ys : List Nat} {b b' : Nat} (h : (xs ++ b :: ys).Nodup) (h1 : b' ∉ xs) (h2 : b' ∉ ys) : (xs ++ b' :: ys).Nodup := by
  rw [List.nodup_append, List.nodup_cons] at h ⊢
  obtain ⟨k1, ⟨k2, k3⟩, k4⟩ := h
  refine ⟨k1, ⟨h2, k3⟩, fun a ha c hc => ?_⟩
  rcases List.mem_cons.1 hc with rfl | hc
  · rintro rfl; exact h1 ha
  · exact k4 a ha c (List.mem_cons_of_mem _ hc)
theorem fp_parts {f : Lf} {pre post : List Tb} {t : Tb} (e : f.ts = pre ++ t :: post) : f.fp = (f.a :: f.tb :: tsFp pre ++ [t.p]) ++ t.b :: tsFp post := by
  unfold Lf.fp
  rw [e, tsFp_append, tsFp_cons]
  simp
/-- What holds of another table's blocks. -/
theorem fp_apart {f : Lf} {pre post : List Tb} {t : Tb} (hn : f.fp.Nodup) (e : f.ts = pre ++ t :: post) : f.a ∉ [t.p, t.b] ∧ f.tb ∉ [t.p, t.b] ∧ (∀ u ∈ pre, u.p ∉ [t.p, t.b] ∧ u.b ∉ [t.p, t.b]) ∧ (∀ u ∈ post, u.p ∉ [t.p, t.b] ∧ u.b ∉ [t.p, t.b]) := by
  unfold Lf.fp at hn
  rw [e, tsFp_append, tsFp_cons, List.nodup_cons, List.nodup_cons, List.nodup_append, List.nodup_cons, List.nodup_cons] at hn
  obtain ⟨h1, h2, h3, ⟨h4, h5, h6⟩, h7⟩ := hn
  simp only [List.mem_cons, List.mem_append, not_or] at h1 h2 h4
  refine ⟨?_, ?_, ?_, ?_⟩
  · simp only [List.mem_cons, List.not_mem_nil, or_false, not_or]; exact ⟨h1.2.2.1, h1.2.2.2.1⟩
  · simp only [List.mem_cons, List.not_mem_nil, or_false, not_or]; exact ⟨h2.2.1, h2.2.2.1⟩
  · intro u hu
    have hm := mem_tsFp hu
    simp only [List.mem_cons, List.not_mem_nil, or_false, not_or]
    exact ⟨⟨h7 _ hm.1 _ (by simp), h7 _ hm.1 _ (by simp)⟩, h7 _ hm.2 _ (by simp), h7 _ hm.2 _ (by simp)⟩
  · intro u hu
    have hm := mem_tsFp hu
    simp only [List.mem_cons, List.not_mem_nil, or_false, not_or]
    exact ⟨⟨fun e => h4.2 (e ▸ hm.1), fun e => h5 (e ▸ hm.1)⟩, fun e => h4.2 (e ▸ hm.2), fun e => h5 (e ▸ hm.2)⟩
theorem Leaf.turn {w w' : World} {B x : Nat} {f : Lf} {pre post : List Tb} {t : Tb} {b' G' : Nat} {z' : List Cl} (h : Leaf w B x f) (e : f.ts = pre ++ t :: post) (hs : Stay w w' [t.p, t.b]) (hT : Tab w' B t.p b' x G' z') (hb : b' = t.b ∨ w.heap.size ≤ b')
    (hk : (keysOf (tsEs (pre ++ ⟨t.p, b', G', z'⟩ :: post))).Nodup) :
    Leaf w' B x { f with ts := pre ++ ⟨t.p, b', G', z'⟩ :: post } ∧ (∀ j ∈ ({ f with ts := pre ++ ⟨t.p, b', G', z'⟩ :: post } : Lf).fp, j ∈ f.fp ∨ w.heap.size ≤ j) ∧ Stay w w' f.fp := by
  obtain ⟨h1, h2, h3, h4⟩ := fp_apart h.nod e
  have hlen : (pre ++ (⟨t.p, b', G', z'⟩ : Tb) :: post).length = f.ts.length := by rw [e]; simp
  have hps : (pre ++ (⟨t.p, b', G', z'⟩ : Tb) :: post).map (·.p) = f.ts.map (·.p) := by rw [e]; simp
  have hfp : ({ f with ts := pre ++ ⟨t.p, b', G', z'⟩ :: post } : Lf).fp = (f.a :: f.tb :: tsFp pre ++ [t.p]) ++ b' :: tsFp post := fp_parts (f := { f with ts := pre ++ ⟨t.p, b', G', z'⟩ :: post }) rfl
  have hfp0 := fp_parts e
  have hlt := h.fplt
  refine ⟨⟨?_, ?_, ?_, h.low, ?_, hk, ?_⟩, ?_, hs.mono ?_⟩
  · show w'.heap[f.a]? = some (.cells #[.int .i64 (f.l : Nat), .slice (some ⟨f.tb, 0, none⟩) (pre ++ (⟨t.p, b', G', z'⟩ : Tb) :: post).length f.cap] 153 (0, 0))
    rw [hlen, hs.block f.a h.lt h1]
    exact h.blk
  · show OwnP w' B 110 (some ⟨f.tb, 0, none⟩) (pre ++ (⟨t.p, b', G', z'⟩ : Tb) :: post).length f.cap ((pre ++ (⟨t.p, b', G', z'⟩ : Tb) :: post).map (·.p))
    rw [hlen, hps]
    exact OwnR.stay h.row hs (fun k hk => by cases hk; exact h2)
  · intro u hu
    rcases List.mem_append.1 hu with hu | hu
    · exact (h.tab u (by rw [e]; simp [hu])).stay hs (h3 u hu).1 (h3 u hu).2
    · rcases List.mem_cons.1 hu with rfl | hu
      · exact hT
      · exact (h.tab u (by rw [e]; simp [hu])).stay hs (h4 u hu).1 (h4 u hu).2
  · rw [hfp]
    have hn := h.nod
    rw [hfp0] at hn hlt
    rcases hb with rfl | hb
    · exact hn
    · exact nodup_replace hn (fun hm => by have := hlt b' (List.mem_append.2 (.inl hm)); omega) (fun hm => by have := hlt b' (List.mem_append.2 (.inr (List.mem_cons_of_mem _ hm))); omega)
  · show 0 < (pre ++ (⟨t.p, b', G', z'⟩ : Tb) :: post).length
    rw [hlen]; exact h.pos
  · intro j hj
    rw [hfp] at hj
    rw [hfp0]
    rcases List.mem_append.1 hj with hj | hj
    · exact .inl (List.mem_append.2 (.inl hj))
    · rcases List.mem_cons.1 hj with rfl | hj
      · rcases hb with rfl | hb
        · exact .inl (by simp)
        · exact .inr hb
      · exact .inl (List.mem_append.2 (.inr (List.mem_cons_of_mem _ hj)))
  · intro j hj
    rw [hfp0]
    simp only [List.mem_cons, List.not_mem_nil, or_false] at hj
    rcases hj with rfl | rfl <;> simp
/-- No table of a leaf has nothing, but where it is the only one. -/
def Ful (f : Lf) : Prop := f.ts.length = 1 ∨ ∀ t ∈ f.ts, 0 < t.es.length
theorem Ful.le {f : Lf} (h : Ful f) : f.ts.length ≤ f.es.length + 1 := by
  rcases h with h | h
  · omega
  · unfold Lf.es
    generalize f.ts = ts at h
    have : ts.length ≤ (tsEs ts).length := by
      induction ts with
      | nil => exact Nat.zero_le _
      | cons t ts ih =>
        have h1 := h t (by simp)
        have h2 := ih (fun u hu => h u (List.mem_cons_of_mem _ hu))
        rw [tsEs_cons, List.length_append, List.length_cons]
        omega
    omega
/-- What becomes of a leaf: it lies in what was its own, and in new memory. -/
structure Grew (w w' : World) (B x : Nat) (f f' : Lf) : Prop where
  leaf : Leaf w' B x f'
  stay : Stay w w' f.fp
  fps : ∀ j ∈ f'.fp, j ∈ f.fp ∨ w.heap.size ≤ j
  l : f'.l = f.l
  q : f'.q = f.q
  a : f'.a = f.a
theorem Grew.first {w w0 w' : World} {B x : Nat} {f f' : Lf} (h : Grew w w' B x f f') (hb : Below w0.heap.size w0 w) : Grew w0 w' B x f f' :=
  ⟨h.leaf, (Stay.of_below hb f.fp).trans h.stay (fun _ hi => .inl hi), fun j hj => (h.fps j hj).imp id (fun k => Nat.le_trans hb.size k), h.l, h.q, h.a⟩
theorem keys_nodup_add {es es' : List En} {k : ByteArray} {v : (Option Addr)} (hn : (keysOf es).Nodup) (hk : k ∉ keysOf es) (hp : es'.Perm (es ++ [(k, v)])) : (keysOf es').Nodup := by
  have h1 := (hp.map (·.1)).nodup_iff
  refine h1.2 ?_
  rw [List.map_append, List.nodup_append]
  refine ⟨hn, by simp, fun a ha b hb => ?_⟩
  simp at hb
  subst hb
  rintro rfl
  exact hk ha
theorem mid_perm {pre post : List Tb} {t t' : Tb} {e : List En} (hp : t'.es.Perm (t.es ++ e)) : (tsEs (pre ++ t' :: post)).Perm (tsEs (pre ++ t :: post) ++ e) := by
  rw [tsEs_append, tsEs_append, tsEs_cons, tsEs_cons, List.append_assoc]
  refine List.Perm.append_left _ ?_
  refine (hp.append_right _).trans ?_
  rw [List.append_assoc, List.append_assoc]
  exact List.Perm.append_left _ List.perm_append_comm
theorem not_in_tab {f : Lf} {t : Tb} {k : ByteArray} (hk : k ∉ keysOf f.es) (ht : t ∈ f.ts) : k ∉ (ents t.z).map (·.1) := fun h => hk (by
  obtain ⟨e, he, h1⟩ := List.mem_map.1 h
  exact List.mem_map.2 ⟨e, List.mem_flatMap.2 ⟨t, ht, he⟩, h1⟩)
theorem get_parts {α : Type} {l : List α} {i : Nat} {t : α} (h : l[i]? = some t) : l = l.take i ++ t :: l.drop (i + 1) := by
  obtain ⟨h1, h2⟩ := List.getElem?_eq_some_iff.1 h
  conv => lhs; rw [← List.take_append_drop i l, List.drop_eq_getElem_cons h1, h2]
/-- One table more, behind the others. -/
theorem Leaf.more {w w3 : World} {B x : Nat} {f : Lf} {g3 c3 p b G : Nat} {z : List Cl} (h : Leaf w B x f) (hg : w.grownBy w3 (some f.tb)) (hO : OwnP w3 B 110 (some ⟨g3, 0, none⟩) (f.ts.length + 1) c3 (f.ts.map (·.p) ++ [p])) (hgo : g3 = f.tb ∨ w.heap.size ≤ g3)
    (hT : Tab w B p b x G z) (hp : p ∉ f.fp) (hb : b ∉ f.fp) (hk : (keysOf (f.es ++ ents z)).Nodup) :
    Leaf (w3.setCell ⟨f.a, 1, none⟩ (.slice (some ⟨g3, 0, none⟩) (f.ts.length + 1) c3)) B x { f with tb := g3, cap := c3, ts := f.ts ++ [⟨p, b, G, z⟩] } ∧ (∀ j ∈ ({ f with tb := g3, cap := c3, ts := f.ts ++ [⟨p, b, G, z⟩] } : Lf).fp, j ∈ f.fp ∨ w.heap.size ≤ j ∨ j = p ∨ j = b) := by
  have hpb := hT.top.ne hT.row
  have hnod := h.nod
  have hlt := h.fplt
  have hpl := hT.top.lt
  have hbl := hT.row.lt
  have hfa : f.a ∈ f.fp := by simp [Lf.fp]
  have hft : f.tb ∈ f.fp := by simp [Lf.fp]
  have hfu : ∀ j ∈ tsFp f.ts, j ∈ f.fp := fun j hj => List.mem_cons_of_mem _ (List.mem_cons_of_mem _ hj)
  have hn := h.nod
  unfold Lf.fp at hn
  rw [List.nodup_cons, List.nodup_cons] at hn
  obtain ⟨n1, n2, n3⟩ := hn
  rw [List.mem_cons, not_or] at n1
  have hS : Stay w w3 [f.tb] := Stay.grown hg (fun g e => by cases e; simp)
  have hS2 : Stay w (w3.setCell ⟨f.a, 1, none⟩ (.slice (some ⟨g3, 0, none⟩) (f.ts.length + 1) c3)) [f.tb, f.a] :=
    (hS.mono (by simp)).trans Stay.set (fun i hi => .inl (by simp at hi; simp [hi]))
  have hblk3 : w3.heap[f.a]? = some (.cells #[.int .i64 (f.l : Nat), .slice (some ⟨f.tb, 0, none⟩) f.ts.length f.cap] 153 (0, 0)) := by
    rw [hS.block f.a h.lt (by simpa using n1.1)]; exact h.blk
  have ga : g3 ≠ f.a := by
    rcases hgo with rfl | hgo
    · exact fun e => n1.1 e.symm
    · have := (hlt f.a hfa).2; omega
  have gt : g3 ∉ tsFp f.ts := by
    rcases hgo with rfl | hgo
    · exact n2
    · intro hm; have := (hlt g3 (hfu _ hm)).2; omega
  have gp : g3 ≠ p ∧ g3 ≠ b := by
    rcases hgo with rfl | hgo
    · exact ⟨fun e => hp (e ▸ hft), fun e => hb (e ▸ hft)⟩
    · exact ⟨by omega, by omega⟩
  refine ⟨⟨?_, ?_, ?_, h.low, ?_, ?_, ?_⟩, ?_⟩
  · show (w3.setCell ⟨f.a, 1, none⟩ _).heap[f.a]? = some (.cells #[.int .i64 (f.l : Nat), .slice (some ⟨g3, 0, none⟩) (f.ts ++ [(⟨p, b, G, z⟩ : Tb)]).length c3] 153 (0, 0))
    rw [heap_set hblk3, List.length_append]
    rfl
  · show OwnP _ B 110 (some ⟨g3, 0, none⟩) (f.ts ++ [(⟨p, b, G, z⟩ : Tb)]).length c3 ((f.ts ++ [(⟨p, b, G, z⟩ : Tb)]).map (·.p))
    rw [List.length_append, List.map_append]
    exact OwnR.stay hO (Stay.set (q := f.a)) (fun k hk => by cases hk; simpa using ga)
  · intro u hu
    rcases List.mem_append.1 hu with hu | hu
    · have hm := mem_tsFp hu
      refine (h.tab u hu).stay hS2 ?_ ?_
      · simp only [List.mem_cons, List.not_mem_nil, or_false, not_or]
        exact ⟨fun e => n2 (e ▸ hm.1), fun e => n1.2 (e ▸ hm.1)⟩
      · simp only [List.mem_cons, List.not_mem_nil, or_false, not_or]
        exact ⟨fun e => n2 (e ▸ hm.2), fun e => n1.2 (e ▸ hm.2)⟩
    · cases List.mem_singleton.1 hu
      refine hT.stay hS2 ?_ ?_
      · simp only [List.mem_cons, List.not_mem_nil, or_false, not_or]
        exact ⟨fun e => hp (e ▸ hft), fun e => hp (e ▸ hfa)⟩
      · simp only [List.mem_cons, List.not_mem_nil, or_false, not_or]
        exact ⟨fun e => hb (e ▸ hft), fun e => hb (e ▸ hfa)⟩
  · show (f.a :: g3 :: tsFp (f.ts ++ [(⟨p, b, G, z⟩ : Tb)])).Nodup
    rw [tsFp_append, tsFp_cons]
    show (f.a :: g3 :: (tsFp f.ts ++ [p, b])).Nodup
    rw [List.nodup_cons, List.nodup_cons, List.nodup_append]
    refine ⟨?_, ?_, n3, ?_, ?_⟩
    · simp only [List.mem_cons, List.mem_append, List.not_mem_nil, or_false, not_or]
      exact ⟨fun e => ga e.symm, n1.2, fun e => hp (e ▸ hfa), fun e => hb (e ▸ hfa)⟩
    · simp only [List.mem_cons, List.mem_append, List.not_mem_nil, or_false, not_or]
      exact ⟨gt, gp.1, gp.2⟩
    · simp [hpb]
    · intro a ha c hc
      simp only [List.mem_cons, List.not_mem_nil, or_false] at hc
      rcases hc with rfl | rfl
      · rintro rfl; exact hp (hfu _ ha)
      · rintro rfl; exact hb (hfu _ ha)
  · show (keysOf (tsEs (f.ts ++ [(⟨p, b, G, z⟩ : Tb)]))).Nodup
    rw [tsEs_append, tsEs_one]
    exact hk
  · show 0 < (f.ts ++ [(⟨p, b, G, z⟩ : Tb)]).length
    rw [List.length_append]; exact Nat.lt_of_lt_of_le h.pos (Nat.le_add_right _ _)
  · intro j hj
    change j ∈ f.a :: g3 :: tsFp (f.ts ++ [(⟨p, b, G, z⟩ : Tb)]) at hj
    rw [tsFp_append, tsFp_cons] at hj
    simp only [List.mem_cons, List.mem_append] at hj
    rcases hj with rfl | rfl | hj | rfl | rfl | hj
    · exact .inl hfa
    · exact hgo.elim (fun e => .inl (e ▸ hft)) (fun e => .inr (.inl e))
    · exact .inl (hfu _ hj)
    · exact .inr (.inr (.inl rfl))
    · exact .inr (.inr (.inr rfl))
    · simp [tsFp] at hj
/-- A leaf with one key more. -/
def Added (w w' : World) (B x : Nat) (f : Lf) (k : ByteArray) (v : (Option Addr)) : Prop :=
  ∃ f', Grew w w' B x f f' ∧ f'.es.Perm (f.es ++ [(k, v)]) ∧ (f.ts.length = 1 → f.es.length < 112 → f'.ts.length = 1) ∧ (Ful f → Ful f')
set_option maxRecDepth 100000 in
set_option maxHeartbeats 4000000 in
theorem add_leaf (B x : Nat) (f : Lf) (k : ByteArray) (v : (Option Addr)) (w : World) (hL : Leaf w B x f) (hx : x < 18446744073709551616) (hks : k.size ≤ maxLen) (hk : k ∉ keysOf f.es) (hn : f.ts.length ≤ 10000000) (hB : B ≤ w.heap.size) :
    Calls Tryz.prog 131 #[ptr f.a, .int .u64 x, .string k, .pointer v] w fun e w' => e = .returned (.tuple #[]) ∧ Added w w' B x f k v := by
  have HL : Hid (Leaf w B x f) := hL
  have hc := hL.tabs
  have HK : Hid (k ∉ keysOf f.es) := hk
  have HKS : Hid (k.size ≤ maxLen) := hks
  have HX : Hid (x < 18446744073709551616) := hx
  have HBs : Hid (B ≤ w.heap.size) := hB
  generalize hm : f.ts.length = m at hc hn
  have HM : Hid (f.ts.length = m) := hm
  clear hL hm hk hks hx hB
  go_enter Tryz.func131, Tryz.ntmps131
  go_wp2
  go_loopg [9, 16] m (fun q tv iv wr => ∃ i : Nat, i + q = m ∧ iv = .int .i64 i ∧ Hid (∀ t ∈ f.ts.take i, 112 ≤ t.es.length) ∧ Hid (Below w.heap.size w wr))
  case atStart => exact ⟨0, by omega, rfl, (by simp : ∀ t ∈ f.ts.take 0, 112 ≤ t.es.length), Below.refl _ _⟩
  case round =>
    obtain ⟨i, hi, rfl, HFu, HB⟩ := hrel
    by_cases h8 : (i : Int) < m
    · obtain ⟨t, ht, htm⟩ := get_of_lt (l := f.ts) (i := i) (by have := HM.out; omega)
      have hcc := (HL.out.keep HB.out).at ht
      have HTab : Hid (Tab wr B t.p t.b x t.G t.z) := (HL.out.keep HB.out).tab t htm
      have HIn := not_in_tab HK.out htm
      by_cases hfull : 112 ≤ (ents t.z).length
      · have hP := Put_full _ _ _ _ _ _ k v _ HTab.out HKS.out HIn hfull
        have HFu1 : Hid (∀ t ∈ f.ts.take (i + 1), 112 ≤ t.es.length) := by
          show ∀ t ∈ f.ts.take (i + 1), 112 ≤ t.es.length
          rw [take_more ht]
          intro u hu
          rcases List.mem_append.1 hu with hu | hu
          · exact HFu.out u hu
          · rw [List.mem_singleton.1 hu]; exact hfull
        clear ht htm HIn hfull
        go_wp2_with fail
        refine hP.mono ?_
        rintro e w1 ⟨rfl, hb1⟩
        have HB1 := step_below HB hb1
        clear hb1 hP
        go_wp2
        go_roundg (gk - 1)
        case measure => omega
        case rel => exact ⟨i + 1, by omega, by go_num, HFu1, HB1⟩
      · have hP := Put_new _ _ _ _ _ _ k v _ HTab.out HKS.out HIn (by omega)
        have HG : Hid (f.ts = f.ts.take i ++ t :: f.ts.drop (i + 1)) := get_parts ht
        clear ht htm HIn hfull
        go_wp2_with fail
        refine hP.mono ?_
        rintro e w1 ⟨rfl, hm1, b1, G1, z1, hT1, hb1, hp1⟩
        have HR : Hid (Added w w1 B x f k v) := by
          have hpm : (tsEs (f.ts.take i ++ ⟨t.p, b1, G1, z1⟩ :: f.ts.drop (i + 1))).Perm (f.es ++ [(k, v)]) := by
            have := mid_perm (pre := f.ts.take i) (post := f.ts.drop (i + 1)) (t := t) (t' := ⟨t.p, b1, G1, z1⟩) hp1
            rw [← HG.out] at this
            exact this
          obtain ⟨k1, k2, k3⟩ := (HL.out.keep HB.out).turn HG.out (Stay.of_moves hm1) hT1 hb1 (keys_nodup_add HL.out.key HK.out hpm)
          exact ⟨_, (⟨k1, k3, k2, rfl, rfl, rfl⟩ : Grew wr w1 B x f _).first HB.out, hpm, fun h _ => by
            have := congrArg List.length HG.out
            rw [h] at this
            simp at this ⊢
            omega, fun h => .inr fun u hu => by
              rcases List.mem_append.1 hu with hu | hu
              · have := HFu.out u hu; omega
              · rcases List.mem_cons.1 hu with rfl | hu
                · have := hp1.length_eq
                  rw [List.length_append] at this
                  show 0 < (ents z1).length
                  simp at this
                  omega
                · rcases h with h | h
                  · have h9 := congrArg List.length HG.out
                    rw [h] at h9
                    have h10 : 0 < (f.ts.drop (i + 1)).length := List.length_pos_of_mem hu
                    simp at h9 h10
                    omega
                  · exact h u (by rw [HG.out]; simp [hu])⟩
        clear hm1 hT1 hb1 hp1 hP
        go_wp2
        refine bodyPost_ret (results_none rfl _ _ _) rfl ?_
        exact ⟨rfl, HR.out⟩
    · have HFu2 : Hid (∀ t ∈ f.ts, 112 ≤ t.es.length) := by
        have := HFu.out
        rw [List.take_of_length_le (by have := HM.out; omega)] at this
        exact this
      have hNew := New_tab x wr HX.out
      go_wp2_with fail
      refine hNew.mono ?_
      rintro e w1 ⟨hb1, p, b, rfl, hT1, -⟩
      have HB1 := step_below HB hb1
      have HTl : Hid (wr.heap.size ≤ p ∧ wr.heap.size ≤ b) := ⟨hT1.low, hT1.lowb⟩
      have hP := Put_new _ _ _ _ _ _ k v _ hT1 HKS.out (by rw [ents_news0]; simp) (by rw [ents_news0]; decide)
      have HT1 : Hid (Tab w1 wr.heap.size p b x 1 (news0 1)) := hT1
      have HS1 : Hid (wr.heap.size ≤ w1.heap.size) := hb1.size
      clear hb1 hT1 hNew
      go_wp2_with fail
      refine hP.mono ?_
      rintro e w2 ⟨rfl, hm2, b2, G2, z2, hT2, hb2, hp2⟩
      rw [ents_news0, List.nil_append] at hp2
      have HP2 : Hid ((ents z2).Perm [(k, v)]) := hp2
      have HBw : Hid (w.heap.size ≤ wr.heap.size) := HB.out.size
      have HT2 : Hid (Tab w2 B p b2 x G2 z2) := hT2.lower (Nat.le_trans HBs.out HBw.out)
      have HTl2 : Hid (wr.heap.size ≤ p ∧ wr.heap.size ≤ b2) := ⟨HTl.out.1, by have := HTl.out.2; have := HS1.out; rcases hb2 with rfl | h <;> omega⟩
      have HB2 : Hid (Below w.heap.size w w2) := HB1.out.trans ((Stay.of_moves hm2).below (by intro i hi; simp at hi; have := HTl.out; have := HBw.out; rcases hi with rfl | rfl <;> omega) HB1.out.size)
      clear hm2 hT2 hb2 hp2 hP HT1
      obtain ⟨w3, hw3⟩ : ∃ w3, w2.alloc (.cells #[ptr p] 110) = w3 := ⟨_, rfl⟩
      obtain ⟨g, hg⟩ : ∃ g, w2.heap.size = g := ⟨_, rfl⟩
      have HB3' : Hid (Below w2.heap.size w2 w3) := by show Below _ _ _; rw [← hw3]; exact alloc_below w2 _
      have hc3 : w3.cell? ⟨g, 0, none⟩ = some (ptr p) := by rw [← hw3, ← hg]; simp only [World.cell?, heap_alloc_new]; rfl
      have HB3 := step_below HB2 HB3'.out
      have HT3 : Hid (Tab w3 B p b2 x G2 z2) := HT2.out.keep HB3'.out
      have HL3 : Hid (Leaf w3 B x f) := HL.out.keep HB3.out
      have hL3 := HL3.out.tabs
      rw [HM.out] at hL3
      have hL2 := (HL.out.keep HB2.out).tabs
      rw [HM.out] at hL2
      have HO3 : Hid (OwnP w3 B 110 (some ⟨f.tb, 0, none⟩) m f.cap (f.ts.map (·.p))) := by have := HL3.out.row; rw [HM.out] at this; exact this
      have HNm : Hid (m ≤ 10000000) := hn
      clear HB3' HTl HFu HT2 hc
      go_wp2_with (at_builtin; refine append_r rfl (.tmp 36) (.tmp 38) rfl eltT B rfl HO3.out [ptr p] rfl rfl (by intro j u hu; cases j with | zero => (rw [add_flat, hc3]; exact hu) | succ j => simp at hu) (by simp [Value.oneCell']) (by decide) (by have := HNm.out; omega) (by have := HNm.out; unfold maxLen; omega) (Nat.le_trans HBs.out HB3.out.size) ?_; intro a4 n4 c4 w4 hn4 HO4 HG4 HW4; have hc4 : w4.cell? ⟨f.a, 1, none⟩ = some (.slice (some ⟨f.tb, 0, none⟩) m f.cap) := (by rw [World.cell?_of_block (HG4.out.block f.a HL3.out.lt (by intro e; have h := HL3.out.nod; unfold Lf.fp at h; simp at e; simp [e] at h))]; exact hL3); have hf4 : w4.frozen? ⟨f.a, 1, none⟩ = false := (by have := HG4.out.block f.a HL3.out.lt (by intro e; have h := HL3.out.nod; unfold Lf.fp at h; simp at e; simp [e] at h); rw [HL3.out.blk] at this; simp [World.frozen?, this]))
      go_end0
      refine ⟨rfl, ?_⟩
      have hO4 := HO4.out
      have hG4 := HG4.out
      have hW4 := HW4.out
      obtain ⟨g4, rfl, -⟩ := OwnR.at hO4 (by omega)
      have hlt := (HL.out.keep HB.out).fplt
      have hgo : g4 = f.tb ∨ w3.heap.size ≤ g4 := by
        rcases hW4 with h | h
        · simp at h; exact .inl h
        · simp at h; exact .inr (by omega)
      have hpm : (f.es ++ ents z2).Perm (f.es ++ [(k, v)]) := List.Perm.append_left _ HP2.out
      have hp : p ∉ f.fp := fun h => by have := (hlt p h).2; have := HTl2.out.1; omega
      have hb : b2 ∉ f.fp := fun h => by have := (hlt b2 h).2; have := HTl2.out.2; omega
      rw [hn4, ← HM.out] at hO4
      rw [← HM.out]
      obtain ⟨k1, k2⟩ := HL3.out.more hG4 (by unfold OwnP; rw [pcells_append]; exact hO4) hgo HT3.out hp hb (keys_nodup_add HL.out.key HK.out hpm)
      refine ⟨_, ⟨k1, ?_, ?_, rfl, rfl, rfl⟩, ?_, ?_, ?_⟩
      · refine (Stay.of_below HB3.out f.fp).trans (M' := [f.tb, f.a]) (((Stay.grown hG4 (M := [f.tb, f.a]) (fun g e => by simp at e; simp [e]))).trans Stay.set (fun i hi => .inl (by simp at hi; simp [hi]))) (fun i hi => .inl (by simp at hi; rcases hi with rfl | rfl <;> simp [Lf.fp]))
      · intro j hj
        have h1 := HTl2.out
        have h2 := HBw.out
        have h3 := HB3.out.size
        rcases k2 j hj with h | h | rfl | rfl
        · exact .inl h
        · exact .inr (by omega)
        · exact .inr (by omega)
        · exact .inr (by omega)
      · show (tsEs (f.ts ++ [(⟨p, b2, G2, z2⟩ : Tb)])).Perm _
        rw [tsEs_append, tsEs_one]
        exact hpm
      · intro h1 h2
        obtain ⟨t, ht⟩ := List.length_eq_one_iff.1 h1
        have h3 := HFu2.out t (by simp [ht])
        have h4 : f.es = t.es := by unfold Lf.es; rw [ht, tsEs_one]
        rw [h4] at h2
        omega
      · intro _
        refine .inr fun u hu => ?_
        rcases List.mem_append.1 hu with hu | hu
        · have := HFu2.out u hu; omega
        · cases List.mem_singleton.1 hu
          have := HP2.out.length_eq
          show 0 < (ents z2).length
          simp at this
          omega
theorem remove_no (B x : Nat) (f : Lf) (k : ByteArray) (w : World) (hL : Leaf w B x f) (hks : k.size ≤ maxLen) (hk : k ∉ keysOf f.es) :
    Calls Tryz.prog 132 #[ptr f.a, .string k] w fun e w' => e = .returned (.bool false) ∧ Below w.heap.size w w' := by
  have HL : Hid (Leaf w B x f) := hL
  have hc := hL.tabs
  have hmx := hL.max
  have HK : Hid (k ∉ keysOf f.es) := hk
  have HKS : Hid (k.size ≤ maxLen) := hks
  generalize hm : f.ts.length = m at hc hmx
  have HM : Hid (f.ts.length = m) := hm
  clear hL hm hk hks
  go_enter Tryz.func132, Tryz.ntmps132
  go_wp2
  go_loopg [5, 6, 12] m (fun q jv tv iv wr => ∃ i : Nat, i + q = m ∧ iv = .int .i64 i ∧ Hid (Below w.heap.size w wr))
  case atStart => exact ⟨0, by omega, rfl, Below.refl _ _⟩
  case round =>
    obtain ⟨i, hi, rfl, HB⟩ := hrel
    by_cases h8 : (i : Int) < m
    · obtain ⟨t, ht, htm⟩ := get_of_lt (l := f.ts) (i := i) (by have := HM.out; omega)
      have hcc := (HL.out.keep HB.out).at ht
      have hG := Delete_no _ _ _ _ _ _ k _ ((HL.out.keep HB.out).tab t htm) HKS.out (not_in_tab HK.out htm)
      clear ht htm
      go_wp2_with fail
      refine hG.mono ?_
      rintro e w1 ⟨rfl, hb1⟩
      have HB1 := step_below HB hb1
      clear hb1 hG
      go_wp2
      go_roundg (gk - 1)
      case measure => omega
      case rel => exact ⟨i + 1, by omega, by go_num, HB1⟩
    · go_wp2
      go_ret
      exact ⟨rfl, HB.out⟩
/-- One table less. -/
theorem Leaf.drop {w w3 : World} {B x : Nat} {f : Lf} {pre post : List Tb} {t : Tb} {n' c' : Nat} (h : Leaf w B x f) (e : f.ts = pre ++ t :: post) (hg : w.grownBy w3 (some f.tb)) (hO : OwnP w3 B 110 (some ⟨f.tb, 0, none⟩) n' c' ((pre ++ post).map (·.p))) (hpos : 0 < (pre ++ post).length) :
    Leaf (w3.setCell ⟨f.a, 1, none⟩ (.slice (some ⟨f.tb, 0, none⟩) n' c')) B x { f with cap := c', ts := pre ++ post } ∧ (∀ j ∈ ({ f with cap := c', ts := pre ++ post } : Lf).fp, j ∈ f.fp) := by
  have hlen : (pre ++ post).length = n' := by have := OwnP.len hO; rw [List.length_map] at this; exact this
  have hsub : ((tsFp (pre ++ post)).Sublist (tsFp f.ts)) := by
    rw [e, tsFp_append, tsFp_append, tsFp_cons]
    exact List.Sublist.append_left ((List.sublist_cons_self _ _).trans (List.sublist_cons_self _ _)) _
  have hes : (tsEs (pre ++ post)).Sublist f.es := by
    unfold Lf.es
    rw [e, tsEs_append, tsEs_append, tsEs_cons]
    exact List.Sublist.append_left (List.sublist_append_right _ _) _
  have hn := h.nod
  unfold Lf.fp at hn
  rw [List.nodup_cons, List.nodup_cons] at hn
  obtain ⟨n1, n2, n3⟩ := hn
  rw [List.mem_cons, not_or] at n1
  have hS : Stay w w3 [f.tb] := Stay.grown hg (fun g e => by cases e; simp)
  have hS2 : Stay w (w3.setCell ⟨f.a, 1, none⟩ (.slice (some ⟨f.tb, 0, none⟩) n' c')) [f.tb, f.a] :=
    (hS.mono (by simp)).trans Stay.set (fun i hi => .inl (by simp at hi; simp [hi]))
  have hblk3 : w3.heap[f.a]? = some (.cells #[.int .i64 (f.l : Nat), .slice (some ⟨f.tb, 0, none⟩) f.ts.length f.cap] 153 (0, 0)) := by
    rw [hS.block f.a h.lt (by simpa using n1.1)]; exact h.blk
  refine ⟨⟨?_, ?_, ?_, h.low, ?_, ?_, hpos⟩, ?_⟩
  · show (w3.setCell ⟨f.a, 1, none⟩ _).heap[f.a]? = some (.cells #[.int .i64 (f.l : Nat), .slice (some ⟨f.tb, 0, none⟩) (pre ++ post).length c'] 153 (0, 0))
    rw [heap_set hblk3, hlen]
    rfl
  · show OwnP _ B 110 (some ⟨f.tb, 0, none⟩) (pre ++ post).length c' ((pre ++ post).map (·.p))
    rw [hlen]
    exact OwnR.stay hO (Stay.set (q := f.a)) (fun k hk => by cases hk; simpa using fun e => n1.1 e.symm)
  · intro u hu
    have hu' : u ∈ f.ts := by rw [e]; rcases List.mem_append.1 hu with h | h <;> simp [h]
    have hm := mem_tsFp hu'
    refine (h.tab u hu').stay hS2 ?_ ?_
    · simp only [List.mem_cons, List.not_mem_nil, or_false, not_or]
      exact ⟨fun e => n2 (e ▸ hm.1), fun e => n1.2 (e ▸ hm.1)⟩
    · simp only [List.mem_cons, List.not_mem_nil, or_false, not_or]
      exact ⟨fun e => n2 (e ▸ hm.2), fun e => n1.2 (e ▸ hm.2)⟩
  · exact ((hsub.cons_cons f.tb).cons_cons f.a).nodup h.nod
  · exact (hes.map (·.1)).nodup h.key
  · intro j hj
    exact ((hsub.cons_cons f.tb).cons_cons f.a).mem hj
/-- A leaf with one key less. -/
def Removed (w w' : World) (B x : Nat) (f : Lf) (k : ByteArray) : Prop :=
  ∃ f', Grew w w' B x f f' ∧ (∃ u, f.es.Perm ((k, u) :: f'.es)) ∧ (f.ts.length = 1 → f'.ts.length = 1) ∧ (Ful f → Ful f')
set_option maxRecDepth 100000 in
set_option maxHeartbeats 4000000 in
theorem remove_yes (B x : Nat) (f : Lf) (k : ByteArray) (w : World) (hL : Leaf w B x f) (hks : k.size ≤ maxLen) (hk : k ∈ keysOf f.es) :
    Calls Tryz.prog 132 #[ptr f.a, .string k] w fun e w' => e = .returned (.bool true) ∧ Removed w w' B x f k := by
  have HL : Hid (Leaf w B x f) := hL
  have hc := hL.tabs
  have hmx := hL.max
  have HK : Hid (k ∈ keysOf (tsEs f.ts)) := hk
  have HKS : Hid (k.size ≤ maxLen) := hks
  generalize hm : f.ts.length = m at hc hmx
  have HM : Hid (f.ts.length = m) := hm
  clear hL hm hk hks
  go_enter Tryz.func132, Tryz.ntmps132
  go_wp2
  go_loopg [5, 6, 12] m (fun q jv tv iv wr => ∃ i : Nat, i + q = m ∧ iv = .int .i64 i ∧ Hid (k ∉ keysOf (tsEs (f.ts.take i))) ∧ Hid (Below w.heap.size w wr))
  case atStart => exact ⟨0, by omega, rfl, (by simp [tsEs] : k ∉ _), Below.refl _ _⟩
  case round =>
    obtain ⟨i, hi, rfl, HNo, HB⟩ := hrel
    by_cases h8 : (i : Int) < m
    · obtain ⟨t, ht, htm⟩ := get_of_lt (l := f.ts) (i := i) (by have := HM.out; omega)
      have hcc := (HL.out.keep HB.out).at ht
      have HTab : Hid (Tab wr B t.p t.b x t.G t.z) := (HL.out.keep HB.out).tab t htm
      by_cases hin : k ∈ (ents t.z).map (·.1)
      · have hD := Delete_yes _ _ _ _ _ _ k _ HTab.out HKS.out hin
        have HG : Hid (f.ts = f.ts.take i ++ t :: f.ts.drop (i + 1)) := get_parts ht
        clear ht htm hin
        go_wp2_with fail
        refine hD.mono ?_
        rintro e w1 ⟨rfl, hm1, z1, hT1, u, hp1⟩
        have HPm : Hid (f.es.Perm ((k, u) :: tsEs (f.ts.take i ++ ⟨t.p, t.b, t.G, z1⟩ :: f.ts.drop (i + 1)))) := by
          show f.es.Perm _
          have := mid_perm (pre := f.ts.take i) (post := f.ts.drop (i + 1)) (t := ⟨t.p, t.b, t.G, z1⟩) (t' := t) (e := [(k, u)]) (hp1.trans (List.perm_append_singleton _ _).symm)
          rw [← HG.out] at this
          exact this.trans (List.perm_append_singleton _ _)
        have hkn : (keysOf (tsEs (f.ts.take i ++ ⟨t.p, t.b, t.G, z1⟩ :: f.ts.drop (i + 1)))).Nodup := (List.nodup_cons.1 ((HPm.out.map (·.1)).nodup_iff.1 HL.out.key)).2
        have HT : Hid (Leaf w1 B x { f with ts := f.ts.take i ++ ⟨t.p, t.b, t.G, z1⟩ :: f.ts.drop (i + 1) } ∧ (∀ j ∈ ({ f with ts := f.ts.take i ++ ⟨t.p, t.b, t.G, z1⟩ :: f.ts.drop (i + 1) } : Lf).fp, j ∈ f.fp ∨ wr.heap.size ≤ j) ∧ Stay wr w1 f.fp) := (HL.out.keep HB.out).turn HG.out (Stay.of_moves hm1) hT1 (.inl rfl) hkn
        have hLen := Len_any _ _ _ _ _ _ _ hT1
        have HLn : Hid ((f.ts.take i ++ (⟨t.p, t.b, t.G, z1⟩ : Tb) :: f.ts.drop (i + 1)).length = m) := by
          have := congrArg List.length HG.out
          show _ = _
          rw [← HM.out, this]
          simp
        have HR : Hid ((m = 1 ∨ 0 < (ents z1).length) → Removed w w1 B x f k) := fun hor => ⟨_, (⟨HT.out.1, HT.out.2.2, HT.out.2.1, rfl, rfl, rfl⟩ : Grew wr w1 B x f _).first HB.out, ⟨u, HPm.out⟩, fun h1 => by
          show (f.ts.take i ++ (⟨t.p, t.b, t.G, z1⟩ : Tb) :: f.ts.drop (i + 1)).length = 1
          rw [HLn.out, ← HM.out]; exact h1, fun h1 => by
            rcases hor with hor | hor
            · exact .inl (by rw [HLn.out]; exact hor)
            · rcases h1 with h1 | h1
              · exact .inl (by show (f.ts.take i ++ (⟨t.p, t.b, t.G, z1⟩ : Tb) :: f.ts.drop (i + 1)).length = 1; rw [HLn.out, ← HM.out]; exact h1)
              · refine .inr fun v hv => ?_
                rcases List.mem_append.1 hv with hv | hv
                · exact h1 v (List.mem_of_mem_take hv)
                · rcases List.mem_cons.1 hv with rfl | hv
                  · exact hor
                  · exact h1 v (List.mem_of_mem_drop hv)⟩
        have hc1 := HT.out.1.tabs
        simp only [] at hc1
        rw [HLn.out] at hc1
        clear hm1 hT1 hp1 hkn hD hc hcc
        generalize hd : (ents z1).length = d at hLen
        have HD : Hid ((ents z1).length = d) := hd
        clear hd
        by_cases hd0 : d = 0
        · subst hd0
          replace hLen : Calls Tryz.prog 174 #[ptr t.p] w1 fun e w' => e = .returned (.int .i64 0) ∧ w' = w1 := hLen
          by_cases hm1 : (1 : Int) < m
          · have hrow := Delete_row B f.tb m f.cap ((f.ts.take i ++ (⟨t.p, t.b, t.G, z1⟩ : Tb) :: f.ts.drop (i + 1)).map (·.p)) i w1 (by have := HT.out.1.row; simp only [] at this; rw [HLn.out] at this; exact this) (by omega)
            go_wp2_with fail
            refine hLen.mono ?_
            rintro e w1 ⟨rfl, rfl⟩
            go_wp2_with fail
            refine hrow.mono ?_
            rintro e w2 ⟨n', c', rfl, hO2, hg2⟩
            have HF : Hid (some f.a ≠ some f.tb) := by
              have h := HL.out.nod
              unfold Lf.fp at h
              rw [List.nodup_cons] at h
              intro e
              injection e with e
              exact h.1 (by simp [e])
            have hbl : w2.heap[f.a]? = w1.heap[f.a]? := hg2.block f.a HT.out.1.lt HF.out
            have hc2 : w2.cell? ⟨f.a, 1, none⟩ = some (.slice (some ⟨f.tb, 0, none⟩) m f.cap) := by rw [World.cell?_of_block hbl]; exact hc1
            have hf2 : w2.frozen? ⟨f.a, 1, none⟩ = false := by have := HT.out.1.blk; rw [← hbl] at this; simp [World.frozen?, this]
            have HO2 : Hid (OwnP w2 B 110 (some ⟨f.tb, 0, none⟩) n' c' ((f.ts.take i ++ f.ts.drop (i + 1)).map (·.p))) := by
              show OwnP _ _ _ _ _ _ _
              have hil : (f.ts.take i).length = i := by rw [List.length_take, HM.out]; omega
              have e1 : ((f.ts.take i ++ (⟨t.p, t.b, t.G, z1⟩ : Tb) :: f.ts.drop (i + 1)).map (·.p)).take i = (f.ts.take i).map (·.p) := by
                rw [← List.map_take, List.take_append_of_le_length (by omega), List.take_of_length_le (by omega)]
              have e2 : ((f.ts.take i ++ (⟨t.p, t.b, t.G, z1⟩ : Tb) :: f.ts.drop (i + 1)).map (·.p)).drop (i + 1) = (f.ts.drop (i + 1)).map (·.p) := by
                rw [← List.map_drop, List.drop_append, List.drop_of_length_le (by omega), hil, show i + 1 - i = 1 by omega]
                rfl
              rw [e1, e2] at hO2
              rw [List.map_append]
              exact hO2
            have HG2 : Hid (w1.grownBy w2 (some f.tb)) := hg2
            clear hO2 hg2 hbl hrow hLen
            go_wp2
            go_ret
            refine ⟨rfl, ?_⟩
            have hpos : 0 < (f.ts.take i ++ f.ts.drop (i + 1)).length := by
              rw [List.length_append, List.length_take, List.length_drop, HM.out]
              omega
            obtain ⟨k1, k2⟩ := HT.out.1.drop (pre := f.ts.take i) (post := f.ts.drop (i + 1)) rfl HG2.out HO2.out hpos
            refine ⟨_, (⟨k1, ?_, fun j hj => HT.out.2.1 j (k2 j hj), rfl, rfl, rfl⟩ : Grew wr _ B x f _).first HB.out, ⟨u, ?_⟩, ?_, ?_⟩
            · refine HT.out.2.2.trans (M' := [f.tb, f.a]) ((Stay.grown HG2.out (M := [f.tb, f.a]) (fun g e => by simp at e; simp [e])).trans Stay.set (fun i hi => .inl (by simp at hi; simp [hi]))) (fun i hi => .inl (by simp at hi; rcases hi with rfl | rfl <;> simp [Lf.fp]))
            · refine HPm.out.trans (List.Perm.cons _ ?_)
              show (tsEs _).Perm (tsEs _)
              have hz : (⟨t.p, t.b, t.G, z1⟩ : Tb).es = [] := List.length_eq_zero_iff.1 HD.out
              rw [tsEs_append, tsEs_append, tsEs_cons, hz, List.nil_append]
            · intro h1
              rw [HM.out] at h1
              omega
            · intro h1
              rcases h1 with h1 | h1
              · rw [HM.out] at h1
                omega
              · refine .inr fun v hv => ?_
                rcases List.mem_append.1 hv with hv | hv
                · exact h1 v (List.mem_of_mem_take hv)
                · exact h1 v (List.mem_of_mem_drop hv)
          · have hm2 : decide ((1 : Int) < m) = false := decide_eq_false hm1
            have HR1 : Hid (Removed w w1 B x f k) := HR.out (.inl (by have := HL.out.pos; have := HM.out; omega))
            clear HR
            go_wp2_with fail
            refine hLen.mono ?_
            rintro e w1 ⟨rfl, rfl⟩
            go_wp2
            go_ret
            exact ⟨rfl, HR1.out⟩
        · have HR1 : Hid (Removed w w1 B x f k) := HR.out (.inr (by have := HD.out; omega))
          clear HR
          have hdz : ((d : Int) == 0) = false := by simp; omega
          go_wp2_with fail
          refine hLen.mono ?_
          rintro e w1 ⟨rfl, rfl⟩
          go_wp2
          go_ret
          exact ⟨rfl, HR1.out⟩
      · have hG := Delete_no _ _ _ _ _ _ k _ HTab.out HKS.out hin
        have HNo1 : Hid (k ∉ keysOf (tsEs (f.ts.take (i + 1)))) := by
          show k ∉ _
          rw [take_more ht, tsEs_append, keysOf_append, tsEs_one, List.mem_append]
          exact fun h => h.elim HNo.out hin
        clear ht htm hin
        go_wp2_with fail
        refine hG.mono ?_
        rintro e w1 ⟨rfl, hb1⟩
        have HB1 := step_below HB hb1
        clear hb1 hG
        go_wp2
        go_roundg (gk - 1)
        case measure => omega
        case rel => exact ⟨i + 1, by omega, by go_num, HNo1, HB1⟩
    · exact absurd HK.out (by have := HNo.out; rw [List.take_of_length_le (by have := HM.out; omega)] at this; exact this)
/-- What is in a dict: its depth; where its row of places lies, and whither they lead; its leaves. -/
structure Dg where
  g : Nat
  pb : Nat
  cap : Nat
  pl : List Nat
  L : List Lf
def shL (L : List Lf) : List Pt := L.map Lf.pt
def esL (L : List Lf) : List En := L.flatMap Lf.es
def fpL (L : List Lf) : List Nat := L.flatMap Lf.fp
def Dg.sh (D : Dg) : List Pt := shL D.L
def Dg.es (D : Dg) : List En := esL D.L
/-- A dict in memory. -/
structure Dct (w : World) (B d x : Nat) (D : Dg) : Prop where
  blk : w.heap[d]? = some (.cells #[.int .u64 (x : Nat), .int .i64 (D.es.length : Nat), .slice (some ⟨D.pb, 0, none⟩) (2 ^ D.g) D.cap] 114 (0, 0))
  row : OwnP w B 108 (some ⟨D.pb, 0, none⟩) (2 ^ D.g) D.cap D.pl
  leaf : ∀ f ∈ D.L, Leaf w B x f
  shp : Shp D.g D.sh
  dir : ∀ f ∈ D.L, ∀ i, i < 2 ^ D.g → isIn f.pt i = true → D.pl[i]? = some f.a
  own : ∀ f ∈ D.L, ∀ e ∈ f.es, isIn f.pt (hsh x e.1) = true
  one : ∀ f ∈ D.L, f.l < 16 → f.ts.length = 1
  ful : ∀ f ∈ D.L, Ful f
  nod : (d :: D.pb :: fpL D.L).Nodup
  low : B ≤ d
  seed : x < 18446744073709551616
  le : D.es.length ≤ 1000000
theorem esL_append (a b : List Lf) : esL (a ++ b) = esL a ++ esL b := List.flatMap_append ..
theorem esL_cons (f : Lf) (b : List Lf) : esL (f :: b) = f.es ++ esL b := List.flatMap_cons ..
theorem esL_one (f : Lf) : esL [f] = f.es := by rw [esL_cons]; exact List.append_nil _
theorem fpL_append (a b : List Lf) : fpL (a ++ b) = fpL a ++ fpL b := List.flatMap_append ..
theorem fpL_cons (f : Lf) (b : List Lf) : fpL (f :: b) = f.fp ++ fpL b := List.flatMap_cons ..
theorem mem_fpL {L : List Lf} {f : Lf} (h : f ∈ L) {j : Nat} (hj : j ∈ f.fp) : j ∈ fpL L := List.mem_flatMap.2 ⟨f, h, hj⟩
theorem mem_esL {L : List Lf} {f : Lf} (h : f ∈ L) {e : En} (he : e ∈ f.es) : e ∈ esL L := List.mem_flatMap.2 ⟨f, h, he⟩
theorem Dct.lt {w : World} {B d x : Nat} {D : Dg} (h : Dct w B d x D) : d < w.heap.size := (Array.getElem?_eq_some_iff.1 h.blk).1
theorem Dct.fplt {w : World} {B d x : Nat} {D : Dg} (h : Dct w B d x D) : ∀ k ∈ d :: D.pb :: fpL D.L, B ≤ k ∧ k < w.heap.size := by
  intro k hk
  rcases List.mem_cons.1 hk with rfl | hk
  · exact ⟨h.low, h.lt⟩
  rcases List.mem_cons.1 hk with rfl | hk
  · have := OwnR.lt h.row (k := D.pb) rfl
    exact ⟨this.1, this.2.1⟩
  · obtain ⟨f, hf, hk⟩ := List.mem_flatMap.1 hk
    exact (h.leaf f hf).fplt k hk
theorem Dct.stay {w w' : World} {B d x : Nat} {D : Dg} {M : List Nat} (h : Dct w B d x D) (hs : Stay w w' M) (hd : ∀ k ∈ d :: D.pb :: fpL D.L, k ∉ M) : Dct w' B d x D :=
  ⟨by rw [hs.block d h.lt (hd _ (by simp))]; exact h.blk, OwnR.stay h.row hs (fun k hk => hd k (by cases hk; simp)), fun f hf => (h.leaf f hf).stay hs (fun k hk => hd k (List.mem_cons_of_mem _ (List.mem_cons_of_mem _ (mem_fpL hf hk)))), h.shp, h.dir, h.own, h.one, h.ful, h.nod, h.low, h.seed, h.le⟩
theorem Dct.keep {w w' : World} {B d x : Nat} {D : Dg} (h : Dct w B d x D) (hb : Below w.heap.size w w') : Dct w' B d x D := h.stay (Stay.of_below hb []) (fun _ _ => by simp)
theorem Dct.cseed {w : World} {B d x : Nat} {D : Dg} (h : Dct w B d x D) : w.cell? ⟨d, 0, none⟩ = some (.int .u64 (x : Nat)) := by simp [World.cell?, h.blk]
theorem Dct.ccnt {w : World} {B d x : Nat} {D : Dg} (h : Dct w B d x D) : w.cell? ⟨d, 1, none⟩ = some (.int .i64 (D.es.length : Nat)) := by simp [World.cell?, h.blk]
theorem Dct.cpl {w : World} {B d x : Nat} {D : Dg} (h : Dct w B d x D) : w.cell? ⟨d, 2, none⟩ = some (.slice (some ⟨D.pb, 0, none⟩) (2 ^ D.g) D.cap) := by simp [World.cell?, h.blk]
theorem Dct.frozen {w : World} {B d x : Nat} {D : Dg} (h : Dct w B d x D) (o : Nat) : w.frozen? ⟨d, o, none⟩ = false := by simp [World.frozen?, h.blk]
theorem Dct.len {w : World} {B d x : Nat} {D : Dg} (h : Dct w B d x D) : D.pl.length = 2 ^ D.g := OwnP.len h.row
theorem Dct.pow {w : World} {B d x : Nat} {D : Dg} (h : Dct w B d x D) : 2 ^ D.g ≤ 65536 := pow_le_16 h.shp.le
theorem Dct.les {w : World} {B d x : Nat} {D : Dg} (h : Dct w B d x D) {f : Lf} (hf : f ∈ D.L) : f.es.length ≤ 1000000 := by
  obtain ⟨a, c, e⟩ := List.append_of_mem hf
  have h1 := h.le
  unfold Dg.es at h1
  rw [e, esL_append, esL_cons, List.length_append, List.length_append] at h1
  omega
theorem Dct.lef {w : World} {B d x : Nat} {D : Dg} (h : Dct w B d x D) {f : Lf} (hf : f ∈ D.L) : f.l ≤ D.g ∧ f.l ≤ 16 ∧ f.q < 2 ^ f.l := by
  have h1 := h.shp.lt f.pt (List.mem_map_of_mem hf)
  have h2 := h.shp.le
  simp only [Lf.pt] at h1
  omega
/-- The leaf of a hash, and that its keys belong nowhere else. -/
theorem Dct.parts {w : World} {B d x : Nat} {D : Dg} (h : Dct w B d x D) (hh : Nat) : ∃ a f c, D.L = a ++ f :: c ∧ isIn f.pt hh = true ∧ (∀ u ∈ a, isIn u.pt hh = false) ∧ (∀ u ∈ c, isIn u.pt hh = false) := by
  obtain ⟨sa, s, sc, e, h1, h2, h3⟩ := h.shp.parts hh
  unfold Dg.sh shL at e
  obtain ⟨a, l2, e1, rfl, e3⟩ := List.map_eq_append_iff.1 e
  obtain ⟨f, c, rfl, rfl, rfl⟩ := List.map_eq_cons_iff.1 e3
  exact ⟨a, f, c, e1, h1, fun u hu => h2 _ (List.mem_map_of_mem hu), fun u hu => h3 _ (List.mem_map_of_mem hu)⟩
theorem Dct.place {w : World} {B d x : Nat} {D : Dg} (h : Dct w B d x D) {f : Lf} (hf : f ∈ D.L) {hh : Nat} (hi : isIn f.pt hh = true) : D.pl[hh % 2 ^ D.g]? = some f.a ∧ hh % 2 ^ D.g < 2 ^ D.g := by
  have hlt : hh % 2 ^ D.g < 2 ^ D.g := Nat.mod_lt _ (pow_pos _)
  refine ⟨h.dir f hf _ hlt ?_, hlt⟩
  rw [isIn_low (h.lef hf).1]
  exact hi
/-- A key that is there is in the leaf of its hash. -/
theorem Dct.mem {w : World} {B d x : Nat} {D : Dg} (h : Dct w B d x D) {a c : List Lf} {f : Lf} {k : ByteArray} (e : D.L = a ++ f :: c) (h2 : ∀ u ∈ a, isIn u.pt (hsh x k) = false) (h3 : ∀ u ∈ c, isIn u.pt (hsh x k) = false) {v : (Option Addr)} : (k, v) ∈ D.es ↔ (k, v) ∈ f.es := by
  constructor
  · intro hm
    obtain ⟨u, hu, hm⟩ := List.mem_flatMap.1 hm
    have ho := h.own u hu _ hm
    rw [e] at hu
    rcases List.mem_append.1 hu with hu | hu
    · rw [h2 u hu] at ho; cases ho
    · rcases List.mem_cons.1 hu with rfl | hu
      · exact hm
      · rw [h3 u hu] at ho; cases ho
  · intro hm
    exact mem_esL (by rw [e]; simp) hm
theorem Dct.memk {w : World} {B d x : Nat} {D : Dg} (h : Dct w B d x D) {a c : List Lf} {f : Lf} {k : ByteArray} (e : D.L = a ++ f :: c) (h2 : ∀ u ∈ a, isIn u.pt (hsh x k) = false) (h3 : ∀ u ∈ c, isIn u.pt (hsh x k) = false) : k ∈ keysOf D.es ↔ k ∈ keysOf f.es := by
  constructor
  · intro hm
    obtain ⟨⟨k', v⟩, hm2, rfl⟩ := List.mem_map.1 hm
    exact List.mem_map.2 ⟨_, (h.mem e h2 h3).1 hm2, rfl⟩
  · intro hm
    obtain ⟨⟨k', v⟩, hm2, rfl⟩ := List.mem_map.1 hm
    exact List.mem_map.2 ⟨_, (h.mem e h2 h3).2 hm2, rfl⟩
set_option maxRecDepth 100000 in
theorem Len64_pow (g : Nat) (hg : g ≤ 16) (w : World) : Calls Tryz.prog 216 #[.int .u64 ((2 ^ g : Nat) : Int)] w fun e w' => e = .returned (.int .i64 ((g : Int) + 1)) ∧ w' = w := by
  rcases (by omega : g = 0 ∨ g = 1 ∨ g = 2 ∨ g = 3 ∨ g = 4 ∨ g = 5 ∨ g = 6 ∨ g = 7 ∨ g = 8 ∨ g = 9 ∨ g = 10 ∨ g = 11 ∨ g = 12 ∨ g = 13 ∨ g = 14 ∨ g = 15 ∨ g = 16) with rfl | rfl | rfl | rfl | rfl | rfl | rfl | rfl | rfl | rfl | rfl | rfl | rfl | rfl | rfl | rfl | rfl
  all_goals
    go_enter Tryz.func216, Tryz.ntmps216
    go_wp2
    go_ret
    exact ⟨by kernel_rfl, rfl⟩
theorem Len_pow (g : Nat) (hg : g ≤ 16) (w : World) : Calls Tryz.prog 192 #[.int .u64 ((2 ^ g : Nat) : Int)] w fun e w' => e = .returned (.int .i64 ((g : Int) + 1)) ∧ w' = w := by
  have H := fun w => Len64_pow g hg w
  generalize ((2 ^ g : Nat) : Int) = p at H
  go_enter Tryz.func192, Tryz.ntmps192
  go_wp2_with fail
  refine (H _).mono ?_
  rintro e w ⟨rfl, rfl⟩
  go_wp2
  go_ret
  exact ⟨rfl, rfl⟩
theorem Depth_any (B d x : Nat) (D : Dg) (w : World) (hD : Dct w B d x D) : Calls Tryz.prog 167 #[ptr d] w fun e w' => e = .returned (.int .i64 (D.g : Nat)) ∧ w' = w := by
  have hc := hD.cpl
  have hg := hD.shp.le
  have H := fun w => Len_pow D.g hg w
  have hp := hD.pow
  generalize D.g = g at hc hg H hp ⊢
  generalize 2 ^ g = p at hc H hp
  clear hD
  go_enter Tryz.func167, Tryz.ntmps167
  go_wp2_with fail
  refine (H _).mono ?_
  rintro e w ⟨rfl, rfl⟩
  go_wp2
  go_ret
  exact ⟨by go_num, rfl⟩
theorem Len_dict (B d x : Nat) (D : Dg) (w : World) (hD : Dct w B d x D) : Calls Tryz.prog 41 #[ptr d] w fun e w' => e = .returned (.int .i64 (D.es.length : Nat)) ∧ w' = w := by
  have hc := hD.ccnt
  clear hD
  go_enter Tryz.func41, Tryz.ntmps41
  go_wp2
  go_ret
  exact ⟨rfl, rfl⟩
theorem leafOf_any (B d x : Nat) (D : Dg) (f : Lf) (h : Nat) (w : World) (hD : Dct w B d x D) (hf : f ∈ D.L) (hi : isIn f.pt h = true) (hh : h < 18446744073709551616) :
    Calls Tryz.prog 121 #[ptr d, .int .u64 h] w fun e w' => e = .returned (ptr f.a) ∧ Below w.heap.size w w' := by
  have HD : Hid (Dct w B d x D) := hD
  have hc := hD.cpl
  have hp := hD.pow
  obtain ⟨hpl, hlt⟩ := hD.place hf hi
  have hrow := OwnP.cell hD.row hpl
  have hg := hD.shp.le
  have HDe := fun q => Depth_any B d x D (w.drewN q) (hD.keep (below_drewN w q))
  have HLo := fun w => Low_any h D.g w hh (by omega) (by omega)
  rw [low_dep, dep_nat hg] at HLo
  generalize D.g = g at hc hg hp hlt HDe HLo hrow
  generalize h % 2 ^ g = i at hlt HLo hrow
  generalize 2 ^ g = p at hc hp hlt
  have hiz : (i : Int) < p := by omega
  clear hD hpl
  go_enter Tryz.func121, Tryz.ntmps121
  go_wp2
  go_quiet ((first | (go_at_call 167; with_reducible exact Calls.quiet_of_same (HDe _)) | (go_at_call 166; with_reducible exact Calls.quiet_of_same (HLo _))))
  go_wp2
  go_ret
  exact ⟨rfl, below_drewN _ _⟩
theorem val_one {es : List En} (hn : (keysOf es).Nodup) {k : ByteArray} {u v : (Option Addr)} (h1 : (k, u) ∈ es) (h2 : (k, v) ∈ es) : u = v := by
  induction es with
  | nil => cases h1
  | cons e es ih =>
    replace hn : (e.1 :: keysOf es).Nodup := hn
    rw [List.nodup_cons] at hn
    rcases List.mem_cons.1 h1 with e1 | g1
    · subst e1
      rcases List.mem_cons.1 h2 with e2 | g2
      · exact (Prod.mk.inj e2).2.symm
      · exact absurd (List.mem_map.2 ⟨_, g2, rfl⟩) hn.1
    · rcases List.mem_cons.1 h2 with e2 | g2
      · subst e2
        exact absurd (List.mem_map.2 ⟨_, g1, rfl⟩) hn.1
      · exact ih hn.2 g1 g2
theorem Of_hsh (x : Nat) (k : ByteArray) (w : World) (hks : k.size ≤ maxLen) (hx : x < 18446744073709551616) : Calls Tryz.prog 122 #[.int .u64 x, .string k] w fun e w' => e = .returned (.int .u64 (hsh x k : Nat)) ∧ w' = w := Of_any x k w hks hx
set_option maxHeartbeats 4000000 in
theorem Get_dsome (B d x : Nat) (D : Dg) (k : ByteArray) (v : (Option Addr)) (w : World) (hD : Dct w B d x D) (hks : k.size ≤ maxLen) (hk : (k, v) ∈ D.es) :
    Calls Tryz.prog 74 #[ptr d, .string k] w fun e w' => e = .returned (.tuple #[.pointer v, .bool true]) ∧ Below w.heap.size w w' := by
  obtain ⟨La, f, Lc, eL, hi, h2, h3⟩ := hD.parts (hsh x k)
  have hf : f ∈ D.L := by rw [eL]; simp
  have HK : Hid ((k, v) ∈ tsEs f.ts) := (hD.mem eL h2 h3).1 hk
  have HD : Hid (Dct w B d x D) := hD
  have hc := hD.cseed
  have HOf := fun w => Of_hsh x k w hks hD.seed
  have HLf := fun w hD => leafOf_any B d x D f (hsh x k) w hD hf hi (hsh_lt x k)
  have HL : Hid (Leaf w B x f) := hD.leaf f hf
  have hmx := HL.out.max
  have HKS : Hid (k.size ≤ maxLen) := hks
  generalize hm : f.ts.length = m at hmx
  have HM : Hid (f.ts.length = m) := hm
  generalize hsh x k = h at HOf HLf
  clear hD hk hks hm hi h2 h3 eL hf
  go_enter Tryz.func74, Tryz.ntmps74
  go_wp2_with fail
  refine (HOf _).mono ?_
  rintro e w ⟨rfl, rfl⟩
  go_wp2_with fail
  refine (HLf _ HD.out).mono ?_
  rintro e w1 ⟨rfl, hb1⟩
  have HB1 : Hid (Below w.heap.size w w1) := hb1
  have hc1 := (HL.out.keep hb1).tabs
  rw [HM.out] at hc1
  clear HOf HLf hb1 hc
  go_wp2
  go_loopg [7, 8, 9, 23] m (fun q tv vv bv iv wr => ∃ i : Nat, i + q = m ∧ iv = .int .i64 i ∧ Hid (k ∉ keysOf (tsEs (f.ts.take i))) ∧ Hid (Below w.heap.size w wr))
  case atStart => exact ⟨0, by omega, rfl, (by simp [tsEs] : k ∉ _), HB1⟩
  case round =>
    obtain ⟨i, hi, rfl, HNo, HB⟩ := hrel
    by_cases h8 : (i : Int) < m
    · obtain ⟨t, ht, htm⟩ := get_of_lt (l := f.ts) (i := i) (by have := HM.out; omega)
      have hcc := (HL.out.keep HB.out).at ht
      have HTab : Hid (Tab wr B t.p t.b x t.G t.z) := (HL.out.keep HB.out).tab t htm
      by_cases hin : k ∈ (ents t.z).map (·.1)
      · obtain ⟨⟨k0, v'⟩, hv, rfl⟩ := List.mem_map.1 hin
        have hvv : v' = v := val_one HL.out.key (List.mem_flatMap.2 ⟨t, htm, hv⟩) HK.out
        subst hvv
        have hG := Get_some _ _ _ _ _ _ k0 v' _ HTab.out HKS.out hv
        clear ht htm hin hv
        go_wp2_with fail
        refine hG.mono ?_
        rintro e w2 ⟨rfl, hb2⟩
        have HB2 := step_below HB hb2
        clear hb2 hG
        go_wp2
        go_ret2
        exact ⟨rfl, HB2.out⟩
      · have hG := Get_none _ _ _ _ _ _ k _ HTab.out HKS.out hin
        have HNo1 : Hid (k ∉ keysOf (tsEs (f.ts.take (i + 1)))) := by
          show k ∉ _
          rw [take_more ht, tsEs_append, keysOf_append, tsEs_one, List.mem_append]
          exact fun h => h.elim HNo.out hin
        clear ht htm hin
        go_wp2_with fail
        refine hG.mono ?_
        rintro e w2 ⟨rfl, hb2⟩
        have HB2 := step_below HB hb2
        clear hb2 hG
        go_wp2
        go_roundg (gk - 1)
        case measure => omega
        case rel => exact ⟨i + 1, by omega, by go_num, HNo1, HB2⟩
    · exact absurd (List.mem_map.2 ⟨_, HK.out, rfl⟩) (by have := HNo.out; rw [List.take_of_length_le (by have := HM.out; omega)] at this; exact this)
set_option maxHeartbeats 4000000 in
theorem Get_dnone (B d x : Nat) (D : Dg) (k : ByteArray) (w : World) (hD : Dct w B d x D) (hks : k.size ≤ maxLen) (hk : k ∉ keysOf D.es) :
    Calls Tryz.prog 74 #[ptr d, .string k] w fun e w' => e = .returned (.tuple #[.pointer none, .bool false]) ∧ Below w.heap.size w w' := by
  obtain ⟨La, f, Lc, eL, hi, h2, h3⟩ := hD.parts (hsh x k)
  have hf : f ∈ D.L := by rw [eL]; simp
  have HK : Hid (k ∉ keysOf f.es) := fun h => hk ((hD.memk eL h2 h3).2 h)
  have HD : Hid (Dct w B d x D) := hD
  have hc := hD.cseed
  have HOf := fun w => Of_hsh x k w hks hD.seed
  have HLf := fun w hD => leafOf_any B d x D f (hsh x k) w hD hf hi (hsh_lt x k)
  have HL : Hid (Leaf w B x f) := hD.leaf f hf
  have hmx := HL.out.max
  have HKS : Hid (k.size ≤ maxLen) := hks
  generalize hm : f.ts.length = m at hmx
  have HM : Hid (f.ts.length = m) := hm
  generalize hsh x k = h at HOf HLf
  clear hD hk hks hm hi h2 h3 eL hf
  go_enter Tryz.func74, Tryz.ntmps74
  go_wp2_with fail
  refine (HOf _).mono ?_
  rintro e w ⟨rfl, rfl⟩
  go_wp2_with fail
  refine (HLf _ HD.out).mono ?_
  rintro e w1 ⟨rfl, hb1⟩
  have HB1 : Hid (Below w.heap.size w w1) := hb1
  have hc1 := (HL.out.keep hb1).tabs
  rw [HM.out] at hc1
  clear HOf HLf hb1 hc
  go_wp2
  go_loopg [7, 8, 9, 23] m (fun q tv vv bv iv wr => ∃ i : Nat, i + q = m ∧ iv = .int .i64 i ∧ Hid (Below w.heap.size w wr))
  case atStart => exact ⟨0, by omega, rfl, HB1⟩
  case round =>
    obtain ⟨i, hi, rfl, HB⟩ := hrel
    by_cases h8 : (i : Int) < m
    · obtain ⟨t, ht, htm⟩ := get_of_lt (l := f.ts) (i := i) (by have := HM.out; omega)
      have hcc := (HL.out.keep HB.out).at ht
      have hG := Get_none _ _ _ _ _ _ k _ ((HL.out.keep HB.out).tab t htm) HKS.out (not_in_tab HK.out htm)
      clear ht htm
      go_wp2_with fail
      refine hG.mono ?_
      rintro e w2 ⟨rfl, hb2⟩
      have HB2 := step_below HB hb2
      clear hb2 hG
      go_wp2
      go_roundg (gk - 1)
      case measure => omega
      case rel => exact ⟨i + 1, by omega, by go_num, HB2⟩
    · go_wp2
      go_ret2
      exact ⟨rfl, HB.out⟩
/-- The leaves in the order of their places. -/
def ordU (L : List Lf) (n : Nat) : List Lf := (List.range n).filterMap fun i => L.find? fun f => decide (f.q = i)
theorem Dct.same {w : World} {B d x : Nat} {D : Dg} (h : Dct w B d x D) {f u : Lf} (hf : f ∈ D.L) (hu : u ∈ D.L) {i : Nat} (h1 : isIn f.pt i = true) (h2 : isIn u.pt i = true) : f = u := by
  obtain ⟨j, hj, rfl⟩ := List.getElem_of_mem hf
  obtain ⟨k, hk, rfl⟩ := List.getElem_of_mem hu
  have hl : D.sh.length = D.L.length := List.length_map ..
  have e1 : D.sh[j]'(by omega) = D.L[j].pt := by simp [Dg.sh, shL]
  have e2 : D.sh[k]'(by omega) = D.L[k].pt := by simp [Dg.sh, shL]
  have := h.shp.one (i := j) (j := k) (by omega) (by omega) (h := i) (by rw [e1]; exact h1) (by rw [e2]; exact h2)
  subst this
  rfl
theorem Dct.self {w : World} {B d x : Nat} {D : Dg} (h : Dct w B d x D) {f : Lf} (hf : f ∈ D.L) : isIn f.pt f.q = true := isIn_self (h.lef hf).2.2
theorem Dct.find {w : World} {B d x : Nat} {D : Dg} (h : Dct w B d x D) {f : Lf} (hf : f ∈ D.L) : D.L.find? (fun u => decide (u.q = f.q)) = some f := by
  have : (D.L.find? (fun u => decide (u.q = f.q))).isSome = true := by rw [List.find?_isSome]; exact ⟨f, hf, by simp⟩
  obtain ⟨u, hu⟩ := Option.isSome_iff_exists.1 this
  have h1 := List.mem_of_find?_eq_some hu
  have h2 : u.q = f.q := by simpa using List.find?_some hu
  rw [hu]
  have := h.self h1
  rw [h2] at this
  rw [h.same h1 hf this (h.self hf)]
theorem Dct.ord_perm {w : World} {B d x : Nat} {D : Dg} (h : Dct w B d x D) : (ordU D.L (2 ^ D.g)).Perm D.L := by
  have hn : D.L.Nodup := by
    have h1 := h.shp.dis
    unfold Dg.sh shL at h1
    rw [List.pairwise_map] at h1
    unfold List.Nodup
    refine List.Pairwise.imp_of_mem ?_ h1
    intro a b ha _ hab e
    subst e
    have := hab _ (h.self ha)
    rw [h.self ha] at this
    cases this
  refine (List.perm_ext_iff_of_nodup ?_ hn).2 fun f => ?_
  · unfold ordU List.Nodup
    rw [List.pairwise_filterMap]
    refine List.Pairwise.imp ?_ List.nodup_range
    intro i j hij u hu v hv e
    subst e
    have h1 : u.q = i := by simpa using List.find?_some hu
    have h2 : u.q = j := by simpa using List.find?_some hv
    exact hij (h1.symm.trans h2)
  · unfold ordU
    rw [List.mem_filterMap]
    constructor
    · rintro ⟨i, -, hi⟩
      exact List.mem_of_find?_eq_some hi
    · intro hf
      have hl := h.lef hf
      exact ⟨f.q, List.mem_range.2 (Nat.lt_of_lt_of_le hl.2.2 (Nat.pow_le_pow_right (by decide) hl.1)), h.find hf⟩
end Go.Proofs.YtnajhjmdpaeelaaGreatDoor.Dk
