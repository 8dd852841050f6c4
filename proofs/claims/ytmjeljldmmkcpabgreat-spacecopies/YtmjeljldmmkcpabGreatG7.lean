/- Texts that the others stand on. -/
import Derived.Test.YtmjeljldmmkcpabGreatG6
import Derived.Laws.Runes
namespace Go.Proofs.YtmjeljldmmkcpabGreat.Zs.Dk
open Go.RowKit Go.PlainAid
theorem Seven_nat (h : Nat) (w : World) (hh : h < 18446744073709551616) : Calls Tryz.prog 183 #[.int .u64 h] w fun e w' => e = .returned (.int .u8 (sev h : Nat)) ∧ w' = w := by
  have := Seven_any h w (by omega) (by omega)
  rw [show (h : Int) / 144115188075855872 = (sev h : Nat) by unfold sev; omega] at this
  exact this
/-- No slot of the groups that were probed has the key. -/
def NoK (z : List Cl) (G h : Nat) (k : ByteArray) (j : Nat) : Prop := ∀ i, i < j → ∀ s, s < 8 → (cel z (8 * gAt G h i + s)).1 < 128 → (cel z (8 * gAt G h i + s)).2.1 ≠ k
/-- What find answers. -/
def Fnd (z : List Cl) (G : Nat) (k : ByteArray) (e : Ending) : Prop :=
  (∃ g i : Nat, g < G ∧ i < 8 ∧ (cel z (8 * g + i)).1 < 128 ∧ (cel z (8 * g + i)).2.1 = k ∧ e = .returned (.tuple #[.int .i64 g, .int .i64 i, .bool true])) ∨
  (k ∉ (ents z).map (·.1) ∧ e = .returned (.tuple #[.int .i64 0, .int .i64 0, .bool false]))
theorem str_beq (s t : ByteArray) : (s.toList == t.toList) = decide (s = t) := by
  rw [ByteArray.toList_eq, ByteArray.toList_eq]
  by_cases h : s = t
  · rw [decide_eq_true h, h]; simp
  · rw [decide_eq_false h, beq_eq_false_iff_ne]
    intro e
    refine h ?_
    cases s; cases t
    exact congrArg ByteArray.mk (Array.toList_inj.1 e)
theorem mem_slots {p : Nat → Bool} {k i : Nat} : i ∈ slots p k ↔ i < k ∧ p i = true := by unfold slots; rw [List.mem_filter, List.mem_range]
theorem getD_mem {l : List Nat} {i : Nat} (h : i < l.length) : l.getD i 0 ∈ l := by
  rw [List.getD_eq_getElem?_getD, List.getElem?_eq_getElem h]; exact List.getElem_mem h
set_option maxRecDepth 100000 in
set_option maxHeartbeats 4000000 in
theorem find_any (B p b x G : Nat) (z : List Cl) (k : ByteArray) (w : World) (hT : Tab w B p b x G z) :
    Calls Tryz.prog 136 #[ptr p, .int .u64 (hsh x k : Nat), .string k] w fun e w' => Below w.heap.size w w' ∧ Fnd z G k e := by
  have hc := hT.top.groups
  have hG := hT.inv.grp.le
  have hG0 := hT.inv.grp.pos
  have HT : Hid (Tab w B p b x G z) := hT
  have HL : Hid (z.length = 8 * G) := hT.inv.len
  have HB : Hid (Below w.heap.size w w) := Below.refl _ _
  have hh := hsh_lt x k
  have HH := fun w (hT : Top w p b x G) => home_any p b x G (hsh x k) w hT HT.out.inv.grp hh
  have HS := fun w => Seven_nat (hsh x k) w hh
  have HX := fun g (hg : g < G) w (hT : Top w p b x G) => next_any p b x G g w hT HT.out.inv.grp hg
  obtain ⟨h, eh⟩ : ∃ h, hsh x k = h := ⟨_, rfl⟩
  have HEh : Hid (hsh x k = h) := eh
  have HSV : Hid (sev h < 128) := by show _ < _; rw [← eh]; exact sev_lt x k
  rw [eh] at hh HH HS ⊢
  clear hT eh
  go_enter Tryz.func136, Tryz.ntmps136
  go_wp2_with fail
  refine (HH _ HT.out.top).mono ?_
  rintro e w ⟨rfl, rfl⟩
  go_wp2
  clear hc HH
  go_loopg [9, 11, 20] G (fun q gv iv jv wr => ∃ j : Nat, j + q = G ∧ jv = .int .i64 j ∧ gv = .int .i64 (gAt G h j : Nat) ∧ Hid (NoK z G h k j) ∧ Hid (Below w.heap.size w wr))
  case atStart => exact ⟨0, by omega, rfl, rfl, (fun i hi => absurd hi (by omega)), HB⟩
  case round =>
    clear HB
    obtain ⟨j, hj, rfl, rfl, HN, HB⟩ := hrel
    obtain ⟨ga, hga⟩ : ∃ ga, ga = gk := ⟨_, rfl⟩
    subst hga
    obtain ⟨wa, hwa⟩ : ∃ wa, wa = wr := ⟨_, rfl⟩
    subst hwa
    have HK : Hid (j + ga = G) := hj
    have HTr : Hid (Tab wa B p b x G z) := HT.out.keep HB.out
    by_cases h8 : (j : Int) < G
    · have hgG : gAt G h j < G := gAt_lt hG0 h j
      have HXg := HX _ hgG
      rw [gAt_next] at HXg
      have hc := HTr.out.top.groups
      have hw := HTr.out.row.word hgG
      have HM := fun w => Match_any (HT.out.inv.ok hgG) (sev h) (by have := HSV.out; omega) w
      have HE := fun w => HasEmpty_any (HT.out.inv.ok hgG) w
      have hsv : sev h < 128 := HSV.out
      obtain ⟨g, eg⟩ : ∃ g, gAt G h j = g := ⟨_, rfl⟩
      have HEG : Hid (gAt G h j = g) := eg
      rw [eg] at hgG HXg hw HM HE ⊢
      have hgz : (g : Int) < G := by omega
      obtain ⟨wv, ewv⟩ : ∃ wv, val (wrd z g) = wv := ⟨_, rfl⟩
      rw [ewv] at hw HM HE
      obtain ⟨sv, esv⟩ : ∃ sv, sev h = sv := ⟨_, rfl⟩
      have HES : Hid (sev h = sv) := esv
      rw [esv] at HM HS hsv
      have HD : Hid (Below wa.heap.size wa wa.drew) := below_drewN wa 1
      have HCL : Hid (∀ w', Below wa.heap.size wa w' → w'.cell? ⟨p, 1, none⟩ = some (.slice (some ⟨b, 0, none⟩) G G) ∧ w'.cell? ⟨b, g * 17, none⟩ = some (.int .u64 (wv : Nat))) := by
        intro w' hb
        refine ⟨(HTr.out.keep hb).top.groups, ?_⟩
        rw [← ewv]
        exact (HTr.out.keep hb).row.word hgG
      have HLS : Hid (∀ s, s < 8 → (cel z (8 * g + s)).1 < 128 → (cel z (8 * g + s)).2.1 = k → s ∈ slots (has (wrd z g) sv) 8) := by
        intro s hs h1 h2
        refine mem_slots.2 ⟨hs, decide_eq_true ?_⟩
        rw [wrd_get HL.out hgG hs, HT.out.inv.sev (8 * g + s) (by omega) h1, h2, HEh.out, esv]
      have HLF : Hid (∀ s, s ∈ slots (has (wrd z g) sv) 8 → s < 8 ∧ (cel z (8 * g + s)).1 < 128) := by
        intro s hs
        obtain ⟨h1, h2⟩ := mem_slots.1 hs
        have := of_decide_eq_true h2
        rw [wrd_get HL.out hgG h1] at this
        exact ⟨h1, by omega⟩
      have HML : Hid ((slots (has (wrd z g) sv) 8).length ≤ 8) := slots_len _ _
      have HEE : Hid (hasE z g = some? (has (wrd z g) 128) 8) := rfl
      generalize some? (has (wrd z g) 128) 8 = em at HE HEE
      generalize slots (has (wrd z g) sv) 8 = ms at HM HLS HLF HML
      clear hj eg ewv esv HX
      go_upto_region 4 with fail
      go_region_held3 (fun w' => w'.cell? ⟨p, 1, none⟩ = some (.slice (some ⟨b, 0, none⟩) G G) ∧ w'.cell? ⟨b, g * 17, none⟩ = some (.int .u64 (wv : Nat))) (exact HCL.out _ HD.out) (first
        | (go_at_call 183; refine (HS _).mono ?_; rintro e wx ⟨rfl, rfl⟩)
        | (go_at_call 182; refine (HM _).mono ?_; rintro e wx ⟨hb, am, nm, cm, rfl, hO⟩; replace HD := step_below HD hb))
      clear HM HS hw hc hb
      have HO : Hid (OwnI wx _ am nm cm ms) := hO
      have HNM : Hid (ms.length = nm) := hO.len
      have hnm : nm ≤ 8 := by have := HML.out; have := HNM.out; omega
      clear hO
      go_wp2
      go_loopg [11, 34] nm (fun q iv tv wr => wx = wr ∧ ∃ t : Nat, t + q = nm ∧ tv = .int .i64 t ∧ Hid (∀ s, s ∈ ms.take t → (cel z (8 * g + s)).2.1 ≠ k))
      case atStart => exact ⟨rfl, 0, by omega, rfl, fun s hs => absurd hs (by simp)⟩
      case round =>
        obtain ⟨rfl, t, ht, rfl, HNO⟩ := hrel
        have HTx : Hid (Tab wx B p b x G z) := HTr.out.keep HD.out
        have hc := HTx.out.top.groups
        by_cases h9 : (t : Int) < nm
        · obtain ⟨bm, om, ea, hcm⟩ := HO.out.rd.cell t (by omega)
          subst ea
          have hmem : ms.getD t 0 ∈ ms := getD_mem (by have := HNM.out; omega)
          have HSN : Hid (ms.take (t + 1) = ms.take t ++ [ms.getD t 0]) := take_snoc ms 0 t (by have := HNM.out; omega)
          obtain ⟨hs8, hsf⟩ := HLF.out _ hmem
          have hk := HTx.out.row.key hgG hs8
          generalize ms.getD t 0 = s at hcm HSN hs8 hsf hk
          have HSF : Hid ((cel z (8 * g + s)).1 < 128) := hsf
          have hsz : (s : Int) < 8 := by omega
          obtain ⟨kk, hkk⟩ : ∃ kk, (cel z (8 * g + s)).2.1 = kk := ⟨_, rfl⟩
          have HKK : Hid ((cel z (8 * g + s)).2.1 = kk) := hkk
          rw [hkk] at hk
          clear hkk hmem hsf
          by_cases hek : kk = k
          · subst hek
            go_wp2
            go_ret3
            exact ⟨HB.out.trans (HD.out.mono HB.out.size), .inl ⟨g, s, hgG, hs8, HSF.out, HKK.out, rfl⟩⟩
          · have hkb : (kk.toList == k.toList) = false := by rw [str_beq]; exact decide_eq_false hek
            go_wp2
            go_roundg (gk - 1)
            case measure => omega
            case rel =>
              refine ⟨rfl, t + 1, by omega, by go_num, ?_⟩
              intro s' hs'
              rw [HSN.out] at hs'
              rcases List.mem_append.1 hs' with hs' | hs'
              · exact HNO.out s' hs'
              · rw [List.mem_singleton.1 hs', HKK.out]; exact hek
        · have HNO' : Hid (NoK z G h k (j + 1)) := by
            intro i hi s hs h1 h2
            by_cases hij : i = j
            · subst hij
              rw [HEG.out] at h1 h2
              have := HLS.out s hs h1 h2
              exact HNO.out s (by rw [List.take_of_length_le (by have := HNM.out; omega)]; exact this) h2
            · exact HN.out i (by omega) s hs h1 h2
          have hw := (HCL.out _ HD.out).2
          have HBx : Hid (Below w.heap.size w wx) := HB.out.trans (HD.out.mono HB.out.size)
          cases em with
          | true =>
            have HST : Hid (k ∉ (ents z).map (·.1)) := by
              refine HT.out.inv.stop (j := j) ?_ (.inl ?_)
              · rw [HEh.out]; exact fun i hi => HNO'.out i (by omega)
              · rw [HEh.out, HEG.out]; exact HEE.out
            clear HNO
            go_wp2_with fail
            refine (HE _).mono ?_
            rintro e wx ⟨rfl, rfl⟩
            go_wp2
            go_ret3
            exact ⟨HBx.out, .inr ⟨HST.out, rfl⟩⟩
          | false =>
            clear HNO
            go_wp2_with fail
            refine (HE _).mono ?_
            rintro e wx ⟨rfl, rfl⟩
            go_wp2_with fail
            refine (HXg _ HTx.out.top).mono ?_
            rintro e wx ⟨rfl, rfl⟩
            go_wp2
            go_roundg (ga - 1)
            case measure => have := HK.out; omega
            case rel => exact ⟨j + 1, by have := HK.out; omega, by go_num, rfl, HNO', HBx⟩
    · have HST : Hid (k ∉ (ents z).map (·.1)) := by
        refine HT.out.inv.stop (j := G - 1) ?_ (.inr (by omega))
        rw [HEh.out]
        exact fun i hi => HN.out i (by omega)
      go_wp2
      go_ret3
      exact ⟨HB.out, .inr ⟨HST.out, rfl⟩⟩
/-- Where a new key is laid: the first slot that is free on the way of its hash. -/
def Spr (z : List Cl) (G h : Nat) (g i : Nat) : Prop := ∃ j, j < G ∧ gAt G h j = g ∧ i < 8 ∧ 128 ≤ (cel z (8 * g + i)).1 ∧ (∀ s, s < i → (cel z (8 * g + s)).1 < 128) ∧ ∀ j', j' < j → ∀ s, s < 8 → (cel z (8 * gAt G h j' + s)).1 < 128
theorem Spr.one {z : List Cl} {G h g i g' i' : Nat} (h1 : Spr z G h g i) (h2 : Spr z G h g' i') : g = g' ∧ i = i' := by
  obtain ⟨j, a1, a2, a3, a4, a5, a6⟩ := h1
  obtain ⟨j', b1, b2, b3, b4, b5, b6⟩ := h2
  have e : j = j' := by
    rcases Nat.lt_trichotomy j j' with h | h | h
    · have := b6 j h i a3
      rw [a2] at this
      omega
    · exact h
    · have := a6 j' h i' b3
      rw [b2] at this
      omega
  subst e
  rw [a2] at b2
  subst b2
  refine ⟨rfl, ?_⟩
  rcases Nat.lt_trichotomy i i' with h | h | h
  · have := b5 i h; omega
  · exact h
  · have := a5 i' h; omega
theorem slots_first {p : Nat → Bool} {k s : Nat} (h : 0 < (slots p k).length) (hs : s < (slots p k).getD 0 0) (hk : s < k) : p s = false := by
  apply Bool.eq_false_iff.2
  intro hp
  have hm : s ∈ slots p k := mem_slots.2 ⟨hk, hp⟩
  have hw : (slots p k).Pairwise (· < ·) := List.Pairwise.filter _ List.pairwise_lt_range
  generalize slots p k = l at h hs hm hw
  cases l with
  | nil => simp at h
  | cons a l =>
    rw [List.getD_cons_zero] at hs
    rcases List.mem_cons.1 hm with rfl | hm
    · omega
    · have := (List.pairwise_cons.1 hw).1 s hm
      omega
set_option maxRecDepth 100000 in
set_option maxHeartbeats 4000000 in
theorem spare_any (B p b x G h : Nat) (z : List Cl) (w : World) (hT : Tab w B p b x G z) (hh : h < 18446744073709551616) :
    Calls Tryz.prog 196 #[ptr p, .int .u64 h] w fun e w' => Below w.heap.size w w' ∧ ∃ g i : Nat, e = .returned (.tuple #[.int .i64 g, .int .i64 i]) ∧ Spr z G h g i := by
  have hc := hT.top.groups
  have hG := hT.inv.grp.le
  have hG0 := hT.inv.grp.pos
  have HT : Hid (Tab w B p b x G z) := hT
  have HL : Hid (z.length = 8 * G) := hT.inv.len
  have HB : Hid (Below w.heap.size w w) := Below.refl _ _
  have HH := fun w (hT : Top w p b x G) => home_any p b x G h w hT HT.out.inv.grp hh
  have HX := fun g (hg : g < G) w (hT : Top w p b x G) => next_any p b x G g w hT HT.out.inv.grp hg
  have HFr := fun g (hg : g < G) w => Free_any (HT.out.inv.ok hg) w
  obtain ⟨jE, hjE, HJE⟩ : ∃ jE, jE < G ∧ Hid (∃ s, s < 8 ∧ 128 ≤ (cel z (8 * gAt G h jE + s)).1) := by
    obtain ⟨q, hq, h1⟩ := hT.inv.empty
    obtain ⟨j, hj, h2⟩ := gAt_all (G := G) h (g := q / 8) (by omega)
    refine ⟨j, hj, q % 8, Nat.mod_lt _ (by decide), ?_⟩
    rw [h2, show 8 * (q / 8) + q % 8 = q by omega]
    omega
  have HMS : Hid (∀ g, g < G → ∀ s, s ∈ slots (fre (wrd z g)) 8 ↔ s < 8 ∧ 128 ≤ (cel z (8 * g + s)).1) := by
    intro g hg s
    rw [mem_slots]
    constructor
    · rintro ⟨h1, h2⟩
      have := of_decide_eq_true h2
      rw [wrd_get HL.out hg h1] at this
      exact ⟨h1, this⟩
    · rintro ⟨h1, h2⟩
      exact ⟨h1, decide_eq_true (by rw [wrd_get HL.out hg h1]; exact h2)⟩
  clear hT
  have hgG0 := gAt_lt hG0 h 0
  have hgz0 : ((gAt G h 0 : Nat) : Int) < G := by omega
  have hw0 := HT.out.row.word hgG0
  have HF0 := HFr _ hgG0
  go_enter Tryz.func196, Tryz.ntmps196
  go_wp2_with fail
  refine (HH _ HT.out.top).mono ?_
  rintro e w ⟨rfl, rfl⟩
  generalize hg0 : gAt G h 0 = g0 at hgG0 hgz0 hw0 HF0
  have HG0 : Hid (gAt G h 0 = g0) := hg0
  clear hg0
  generalize val (wrd z g0) = wv at hw0 HF0
  go_wp2_with fail
  refine (HF0 _).mono ?_
  rintro e w1 ⟨hb, a0, n0, c0, rfl, hO⟩
  have HB1 := step_below HB hb
  have HO1 : Hid (OwnI w1 0 a0 n0 c0 (slots (fre (wrd z g0)) 8)) := by
    refine ⟨hO.1, ?_⟩
    rcases hO.2 with h2 | ⟨g, c, cur, h1, h3, h4⟩
    · exact .inl h2
    · exact .inr ⟨g, c, cur, h1, Nat.zero_le _, h4⟩
  clear hb hO hw0 HF0 hc HH HB
  go_wp2
  go_loopg [6, 7] jE (fun q gv fv wr => ∃ (j g : Nat) (a : Option Addr) (n c : Nat), j + q = jE ∧ gv = .int .i64 g ∧ fv = .slice a n c ∧ Hid (gAt G h j = g) ∧ Hid (OwnI wr 0 a n c (slots (fre (wrd z g)) 8)) ∧ Hid (∀ j', j' < j → ∀ s, s < 8 → (cel z (8 * gAt G h j' + s)).1 < 128) ∧ Hid (Below w.heap.size w wr))
  case atStart => exact ⟨0, g0, a0, n0, c0, by omega, rfl, rfl, HG0, HO1, (fun j' hj' => absurd hj' (by omega)), HB1⟩
  case round =>
    clear HO1 HB1 hgG0 hgz0
    obtain ⟨j, g, a, n, c, hj, rfl, rfl, HEG, HO, HNO, HB⟩ := hrel
    have hgG : g < G := by rw [← HEG.out]; exact gAt_lt hG0 h j
    have HTr : Hid (Tab wr B p b x G z) := HT.out.keep HB.out
    have HLN : Hid ((slots (fre (wrd z g)) 8).length = n) := HO.out.len
    have hn8 : n ≤ 8 := by have := slots_len (fre (wrd z g)) 8; have := HLN.out; omega
    by_cases h0 : n = 0
    · subst h0
      have HNF : Hid (∀ s, s < 8 → (cel z (8 * g + s)).1 < 128) := by
        intro s hs
        apply Classical.byContradiction
        intro hn
        have := (HMS.out g hgG s).2 ⟨hs, by omega⟩
        rw [List.length_eq_zero_iff.1 HLN.out] at this
        simp at this
      have hjj : j < jE := by
        apply Classical.byContradiction
        intro hn
        have e : j = jE := by omega
        subst e
        obtain ⟨s, hs, h1⟩ := HJE.out
        rw [HEG.out] at h1
        have := HNF.out s hs
        omega
      have HXg := HX g hgG
      have hgE : (g + 1) % G = gAt G h (j + 1) := by rw [← HEG.out]; exact gAt_next h j
      rw [hgE] at HXg
      have hg1 := gAt_lt hG0 h (j + 1)
      have HF1 := HFr _ hg1
      have hw1 := HTr.out.row.word hg1
      have hc := HTr.out.top.groups
      generalize hg1e : gAt G h (j + 1) = g1 at hg1 HF1 hw1 HXg
      have HG1 : Hid (gAt G h (j + 1) = g1) := hg1e
      have hg1z : (g1 : Int) < G := by omega
      generalize val (wrd z g1) = wv1 at hw1 HF1
      clear hg1e hgE
      go_wp2_with fail
      refine (HXg _ HTr.out.top).mono ?_
      rintro e wr ⟨rfl, rfl⟩
      go_wp2_with fail
      refine (HF1 _).mono ?_
      rintro e w2 ⟨hb, a2, n2, c2, rfl, hO⟩
      have HB2 := step_below HB hb
      have HO2 : Hid (OwnI w2 0 a2 n2 c2 (slots (fre (wrd z g1)) 8)) := by
        refine ⟨hO.1, ?_⟩
        rcases hO.2 with h2 | ⟨g, c, cur, h1, h3, h4⟩
        · exact .inl h2
        · exact .inr ⟨g, c, cur, h1, Nat.zero_le _, h4⟩
      have HNO2 : Hid (∀ j', j' < j + 1 → ∀ s, s < 8 → (cel z (8 * gAt G h j' + s)).1 < 128) := by
        intro j' hj' s hs
        by_cases e : j' = j
        · subst e; rw [HEG.out]; exact HNF.out s hs
        · exact HNO.out j' (by omega) s hs
      clear hb hO
      go_wp2
      go_roundg (gk - 1)
      case measure => omega
      case rel => exact ⟨j + 1, g1, _, _, _, by omega, rfl, rfl, HG1, HO2, HNO2, HB2⟩
    · obtain ⟨bm, om, ea, hcm⟩ := HO.out.rd.cell 0 (by omega)
      subst ea
      have hmem : (slots (fre (wrd z g)) 8).getD 0 0 ∈ slots (fre (wrd z g)) 8 := getD_mem (by have := HLN.out; omega)
      obtain ⟨hs8, hsf⟩ := (HMS.out g hgG _).1 hmem
      have HFI : Hid (∀ s, s < (slots (fre (wrd z g)) 8).getD 0 0 → (cel z (8 * g + s)).1 < 128) := by
        intro s hs
        have h1 := slots_first (by have := HLN.out; omega) hs (by omega)
        have h2 := of_decide_eq_false h1
        rw [wrd_get HL.out hgG (by omega)] at h2
        omega
      generalize (slots (fre (wrd z g)) 8).getD 0 0 = s at hcm hs8 hsf HFI
      have HSF : Hid (128 ≤ (cel z (8 * g + s)).1) := hsf
      have hnz : ((n : Int) == 0) = false := by simp; omega
      have hnp : (0 : Int) < n := by omega
      have hnp' : 0 < n := by omega
      rw [Nat.add_zero] at hcm
      have HBQ : Hid (∀ q, Below w.heap.size w (wr.drewN q)) := fun q => HB.out.trans ((below_drewN wr q).mono HB.out.size)
      clear hmem hsf HX HFr
      go_wp2
      go_quiet (fail)
      go_wp2
      go_ret2
      exact ⟨HBQ.out _, g, s, rfl, j, by omega, HEG.out, hs8, HSF.out, HFI.out, HNO.out⟩
theorem Get_some (B p b x G : Nat) (z : List Cl) (k : ByteArray) (v : Int) (w : World) (hT : Tab w B p b x G z) (hk : k.size ≤ maxLen) (hm : (k, v) ∈ ents z) :
    Calls Tryz.prog 102 #[ptr p, .string k] w fun e w' => e = .returned (.tuple #[.int .u64 v, .bool true]) ∧ Below w.heap.size w w' := by
  have hc := hT.top.seed
  have HO := fun w => Of_any x k w hk hT.seed
  have HF := fun w hT => find_any B p b x G z k w hT
  have HT : Hid (Tab w B p b x G z) := hT
  have HM : Hid ((k, v) ∈ ents z) := hm
  change ∀ w, Calls Tryz.prog 92 #[.int .u64 x, .string k] w fun e w' => e = .returned (.int .u64 (hsh x k : Nat)) ∧ w' = w at HO
  generalize hsh x k = h at HO HF
  clear hT hm hk
  go_enter Tryz.func102, Tryz.ntmps102
  go_wp2_with fail
  refine (HO _).mono ?_
  rintro e w ⟨rfl, rfl⟩
  go_wp2_with fail
  refine (HF _ HT.out).mono ?_
  rintro e w1 ⟨hb, hF⟩
  have HT1 : Hid (Tab w1 B p b x G z) := HT.out.keep hb
  have HB1 : Hid (Below w.heap.size w w1) := hb
  rcases hF with ⟨g, i, hg, hi, h1, h2, rfl⟩ | ⟨h1, rfl⟩
  · have hv := HT1.out.row.vl hg hi
    have hc2 := HT1.out.top.groups
    have e : (cel z (8 * g + i)).2.2 = v := by
      refine HT1.out.inv.val (k := k) (mem_ents.2 ⟨8 * g + i, by rw [HT1.out.inv.len]; omega, h1, ?_⟩) HM.out
      rw [← h2]
    rw [e] at hv
    clear h1 h2 e hb hc
    go_wp2
    go_ret2
    exact ⟨rfl, HB1.out⟩
  · exact absurd (List.mem_map.2 ⟨_, HM.out, rfl⟩) h1
theorem Get_none (B p b x G : Nat) (z : List Cl) (k : ByteArray) (w : World) (hT : Tab w B p b x G z) (hk : k.size ≤ maxLen) (hm : k ∉ (ents z).map (·.1)) :
    Calls Tryz.prog 102 #[ptr p, .string k] w fun e w' => e = .returned (.tuple #[.int .u64 0, .bool false]) ∧ Below w.heap.size w w' := by
  have hc := hT.top.seed
  have HO := fun w => Of_any x k w hk hT.seed
  have HF := fun w hT => find_any B p b x G z k w hT
  have HT : Hid (Tab w B p b x G z) := hT
  have HM : Hid (k ∉ (ents z).map (·.1)) := hm
  change ∀ w, Calls Tryz.prog 92 #[.int .u64 x, .string k] w fun e w' => e = .returned (.int .u64 (hsh x k : Nat)) ∧ w' = w at HO
  generalize hsh x k = h at HO HF
  clear hT hm hk
  go_enter Tryz.func102, Tryz.ntmps102
  go_wp2_with fail
  refine (HO _).mono ?_
  rintro e w ⟨rfl, rfl⟩
  go_wp2_with fail
  refine (HF _ HT.out).mono ?_
  rintro e w1 ⟨hb, hF⟩
  have HB1 : Hid (Below w.heap.size w w1) := hb
  rcases hF with ⟨g, i, hg, hi, h1, h2, rfl⟩ | ⟨h1, rfl⟩
  · refine absurd (List.mem_map.2 ⟨_, mem_ents.2 ⟨8 * g + i, by rw [HT.out.inv.len]; omega, h1, rfl⟩, h2⟩) HM.out
  · clear h1 hb hc
    go_wp2
    go_ret2
    exact ⟨rfl, HB1.out⟩
/-- G groups, the first k of them with their words. -/
def zk (G k : Nat) : List Cl := (List.range (8 * G)).map fun q => ((if q < 8 * k then 128 else 0), ⟨#[]⟩, 0)
theorem zk_len (G k : Nat) : (zk G k).length = 8 * G := by simp [zk]
theorem cel_zk {G q : Nat} (k : Nat) (h : q < 8 * G) : cel (zk G k) q = ((if q < 8 * k then 128 else 0), ⟨#[]⟩, 0) := by
  rw [cel_at _ (by rw [zk_len]; exact h)]
  simp [zk]
theorem zk_all (G : Nat) : zk G G = news0 G := by
  apply List.ext_getElem (by simp [zk, news0])
  intro i h1 h2
  rw [zk_len] at h1
  simp [zk, news0, h1]
theorem wrd_zk_no {G k g : Nat} (hg : g < G) (h : k ≤ g) : wrd (zk G k) g = [0, 0, 0, 0, 0, 0, 0, 0] := by
  refine wrd_ext (zk_len G k) hg _ rfl (fun i hi => ?_)
  rw [cel_zk k (by omega)]
  simp only [if_neg (show ¬ 8 * g + i < 8 * k by omega)]
  rcases slot8 hi with rfl | rfl | rfl | rfl | rfl | rfl | rfl | rfl <;> rfl
theorem wrd_zk_yes {G k g : Nat} (hg : g < G) (h : g < k) : wrd (zk G k) g = new8 := by
  refine wrd_ext (zk_len G k) hg _ rfl (fun i hi => ?_)
  rw [cel_zk k (by omega)]
  simp only [if_pos (show 8 * g + i < 8 * k by omega)]
  rcases slot8 hi with rfl | rfl | rfl | rfl | rfl | rfl | rfl | rfl <;> rfl
theorem Row.whole {w : World} {b G g : Nat} {z z' : List Cl} (h : Row w b G z) (l : List Nat) (h1 : wrd z' g = l) (h2 : ∀ g', g' < G → g' ≠ g → wrd z' g' = wrd z g') (h3 : ∀ q, q < 8 * G → (cel z' q).2 = (cel z q).2) :
    Row (w.setCell ⟨b, g * 17, none⟩ (.int .u64 (val l : Nat))) b G z' := by
  obtain ⟨cs, k1, k2⟩ := h.ex
  refine ⟨_, heap_set k1 _, k2.put _ _ ?_ ?_ ?_⟩
  · intro g' hg'
    split
    · have : g' = g := by omega
      subst this
      rw [h1]
    · exact h2 g' hg' (by rintro rfl; contradiction)
  · intro g' i' hg' hi'
    rw [if_neg (by omega), h3 _ (by omega)]
  · intro g' i' hg' hi'
    rw [if_neg (by omega), h3 _ (by omega)]
abbrev zgrp : Value := .agg #[.int .u64 0, .string ⟨#[]⟩, .int .u64 0, .string ⟨#[]⟩, .int .u64 0, .string ⟨#[]⟩, .int .u64 0, .string ⟨#[]⟩, .int .u64 0, .string ⟨#[]⟩, .int .u64 0, .string ⟨#[]⟩, .int .u64 0, .string ⟨#[]⟩, .int .u64 0, .string ⟨#[]⟩, .int .u64 0]
theorem Tryz.infoG : (Tryz.prog.info? 198).map (fun i => (i.zero, i.size, i.bytes)) = some (some zgrp, 17, 200) := by kernel_rfl
theorem made_get (Z : Array Value) (hz : Z.size = 17) (n g r : Nat) (hg : g < n) (hr : r < 17) : (madeCells Z (n * 17))[g * 17 + r]? = some (Z[r]!) := by
  unfold madeCells
  rw [Array.getElem?_map, Array.getElem?_range, if_pos (by omega), Option.map_some, hz, show (g * 17 + r) % 17 = r by omega]
theorem make_groups (w : World) (n : Nat) (hn : n ≤ 16) :
    (Instr.makeSlice 153 (.int .i64 (n : Int)) (.int .i64 (n : Int))).run Tryz.prog w = .ok (.slice (some ⟨w.heap.size, 0, none⟩) n n) (w.alloc (.cells (madeCells zgrp.cells (n * 17)) 198)) := by
  obtain ⟨i, h1, h2, h3, h4⟩ := info_parts Tryz.infoG
  have := run_make (P := Tryz.prog) w 153 198 i zgrp Tryz.underlying153 h1 h2 .i64 .i64 n n (by omega) (Int.le_refl _) (by rw [h4]; omega) (by omega)
  rw [h3, Int.toNat_natCast] at this
  exact this
theorem row_made (w : World) (n : Nat) : Row (w.alloc (.cells (madeCells zgrp.cells (n * 17)) 198)) w.heap.size n (zk n 0) := by
  have hz : zgrp.cells.size = 17 := rfl
  refine ⟨_, heap_alloc_new w _, by rw [size_madeCells]; omega, ?_, ?_, ?_⟩
  · intro g hg
    have := made_get zgrp.cells hz n g 0 hg (by decide)
    rw [Nat.add_zero] at this
    rw [this, wrd_zk_no hg (Nat.zero_le _)]
    rfl
  · intro g i hg hi
    have := made_get zgrp.cells hz n g (1 + i * 2) hg (by omega)
    rw [← Nat.add_assoc] at this
    rw [this, cel_zk 0 (by omega)]
    rcases slot8 hi with rfl | rfl | rfl | rfl | rfl | rfl | rfl | rfl <;> rfl
  · intro g i hg hi
    have := made_get zgrp.cells hz n g (1 + i * 2 + 1) hg (by omega)
    rw [← Nat.add_assoc, ← Nat.add_assoc] at this
    rw [this, cel_zk 0 (by omega)]
    rcases slot8 hi with rfl | rfl | rfl | rfl | rfl | rfl | rfl | rfl <;> rfl
set_option maxRecDepth 100000 in
set_option maxHeartbeats 4000000 in
theorem emptyGroups_any (n : Nat) (w : World) (hn : n ≤ 16) :
    Calls Tryz.prog 87 #[.int .i64 n] w fun e w' => e = .returned (.slice (some ⟨w.heap.size, 0, none⟩) n n) ∧ Below w.heap.size w w' ∧ Row w' w.heap.size n (news0 n) := by
  have hmk := make_groups w n hn
  obtain ⟨w1, hw1⟩ : ∃ w1, w.alloc (.cells (madeCells zgrp.cells (n * 17)) 198) = w1 := ⟨_, rfl⟩
  have HR : Hid (Row w1 w.heap.size n (zk n 0)) := by show Row _ _ _ _; rw [← hw1]; exact row_made w n
  have HB : Hid (Below w.heap.size w w1) := by show Below _ _ _; rw [← hw1]; exact alloc_below w _
  rw [hw1] at hmk
  clear hw1
  have HN := New_any
  obtain ⟨n8, en8⟩ : ∃ n8, val new8 = n8 := ⟨_, rfl⟩
  have HE8 : Hid (val new8 = n8) := en8
  rw [en8] at HN
  clear en8
  obtain ⟨b, hb⟩ : ∃ b, w.heap.size = b := ⟨_, rfl⟩
  have HBb : Hid (w.heap.size = b) := hb
  rw [hb] at hmk HR
  have HR0 : Hid (w1.heap.size > b) := HR.out.lt
  clear hb
  go_enter Tryz.func87, Tryz.ntmps87
  go_wp2
  go_loopg [4, 9] n (fun q iv jv wr => ∃ g : Nat, g + q = n ∧ jv = .int .i64 g ∧ Hid (Row wr b n (zk n g)) ∧ Hid (Below w.heap.size w wr))
  case atStart => exact ⟨0, by omega, rfl, HR, HB⟩
  case round =>
    clear HB HR
    obtain ⟨g, hg, rfl, HR, HB⟩ := hrel
    by_cases h8 : (g : Int) < n
    · have hgn : g < n := by omega
      go_wp2_with fail
      refine (HN _).mono ?_
      rintro e w2 ⟨rfl, hb2⟩
      have HR2 : Hid (Row w2 b n (zk n g)) := HR.out.keep hb2
      have HB2 := step_below HB hb2
      have hc := HR2.out.word hgn
      have hf := HR2.out.frozen (g * 17)
      have HR3 : Hid (Row (w2.setCell ⟨b, g * 17, none⟩ (.int .u64 (n8 : Nat))) b n (zk n (g + 1))) := by
        show Row _ _ _ _
        rw [← HE8.out]
        refine HR2.out.whole new8 (wrd_zk_yes hgn (by omega)) ?_ ?_
        · intro g' hg' hne
          by_cases hlt : g' < g
          · rw [wrd_zk_yes hg' (by omega), wrd_zk_yes hg' hlt]
          · rw [wrd_zk_no hg' (by omega), wrd_zk_no hg' (by omega)]
        · intro q hq
          rw [cel_zk _ hq, cel_zk _ hq]
      have HB3 : Hid (Below w.heap.size w (w2.setCell ⟨b, g * 17, none⟩ (.int .u64 (n8 : Nat)))) := HB2.out.setCell (p := ⟨b, g * 17, none⟩) (by rw [HBb.out]; exact Nat.le_refl _) _
      generalize val (wrd (zk n g) g) = wv at hc
      clear hb2
      go_wp2
      go_roundg (gk - 1)
      case measure => omega
      case rel => exact ⟨g + 1, by omega, by go_num, HR3, HB3⟩
    · have : g = n := by omega
      subst this
      go_wp2
      go_ret
      exact ⟨by rw [HBb.out]; rfl, HB.out, by rw [HBb.out, ← zk_all]; exact HR.out⟩
theorem New_tab (x : Nat) (w : World) (hx : x < 18446744073709551616) :
    Calls Tryz.prog 55 #[.int .u64 x] w fun e w' => Below w.heap.size w w' ∧ ∃ p b, e = .returned (ptr p) ∧ Tab w' w.heap.size p b x 1 (news0 1) ∧ w.heap.size ≤ p := by
  have HE := emptyGroups_any 1 w (by decide)
  obtain ⟨b, hb⟩ : ∃ b, w.heap.size = b := ⟨_, rfl⟩
  have HBb : Hid (w.heap.size = b) := hb
  rw [hb] at HE
  clear hb
  go_enter Tryz.func55, Tryz.ntmps55
  go_wp2_with fail
  refine HE.mono ?_
  rintro e w1 ⟨rfl, hb1, hR⟩
  have HR : Hid (Row w1 b 1 (news0 1)) := hR
  have HB1 : Hid (Below b w w1) := hb1
  clear hR hb1
  go_wp2
  go_ret
  have hb2 := alloc_below w1 (.cells #[.int .u64 (x : Int), .slice (some ⟨b, 0, none⟩) 1 1] 156)
  have hs := HB1.out.size
  rw [HBb.out] at hs ⊢
  exact ⟨HB1.out.trans (hb2.mono hs), _, b, rfl, ⟨⟨heap_alloc_new w1 _⟩, HR.out.keep hb2, hs, Nat.le_refl _, Inv.news x (.inl rfl), hx, fun e he => by rw [ents_news0] at he; cases he⟩, hs⟩
/-- A slot in a block of its own. -/
def Box (w : World) (q : Nat) (k : ByteArray) (v : Int) : Prop := w.heap[q]? = some (.cells #[.string k, .int .u64 v] 195 (0, 0))
theorem Box.lt {w : World} {q : Nat} {k : ByteArray} {v : Int} (h : Box w q k v) : q < w.heap.size := (Array.getElem?_eq_some_iff.1 h).1
theorem Box.kept {w wn : World} {q : Nat} {k : ByteArray} {v : Int} (h : Box w q k v) (hb : wn.heap[q]? = w.heap[q]?) : Box wn q k v := by unfold Box; rw [hb]; exact h
theorem Box.keep {w wn : World} {q : Nat} {k : ByteArray} {v : Int} (h : Box w q k v) (hb : Below w.heap.size w wn) : Box wn q k v := h.kept (hb.block q h.lt)
theorem Box.key {w : World} {q : Nat} {k : ByteArray} {v : Int} (h : Box w q k v) : w.cell? ⟨q, 0, none⟩ = some (.string k) := by unfold Box at h; simp [World.cell?, h]
theorem Box.vl {w : World} {q : Nat} {k : ByteArray} {v : Int} (h : Box w q k v) : w.cell? ⟨q, 1, none⟩ = some (.int .u64 v) := by unfold Box at h; simp [World.cell?, h]
theorem Box.made (w : World) (k : ByteArray) (v : Int) : Box (w.alloc (.cells #[.string k, .int .u64 v] 195)) w.heap.size k v := heap_alloc_new w _
theorem Box.ne {w : World} {q b G : Nat} {z : List Cl} {k : ByteArray} {v : Int} (h : Box w q k v) (h' : Row w b G z) : q ≠ b := by
  rintro rfl
  obtain ⟨cs, h1, -⟩ := h'.ex
  unfold Box at h
  rw [h1] at h
  simp at h
theorem Box.ne' {w : World} {q p b x G : Nat} {k : ByteArray} {v : Int} (h : Box w q k v) (h' : Top w p b x G) : q ≠ p := by
  rintro rfl
  have := h'.blk
  unfold Box at h
  rw [h] at this
  simp at this
theorem Box.moves {w w' : World} {B q p b x G : Nat} {z : List Cl} {k : ByteArray} {v : Int} (h : Box w q k v) (hm : Moves w w' p b) (hT : Tab w B p b x G z) : Box w' q k v := h.kept (hm.block q h.lt (h.ne' hT.top) (h.ne hT.row))
theorem heap_drewN (w : World) : ∀ n, (w.drewN n).heap = w.heap
  | 0 => rfl
  | n + 1 => heap_drewN w n
/-- Behind the store of the word: the table's parts, and the slot that is to be laid. -/
structure After (w wx : World) (p b x G : Nat) (z : List Cl) (q : Nat) (k : ByteArray) (v : Int) : Prop where
  top : Top wx p b x G
  row : Row wx b G z
  mov : Moves w wx p b
  box : Box wx q k v
set_option maxRecDepth 100000 in
set_option maxHeartbeats 4000000 in
theorem lay_any (B p b x G : Nat) (z : List Cl) (k : ByteArray) (v : Int) (w : World) (hT : Tab w B p b x G z) (hks : k.size ≤ maxLen) (hk : k ∉ (ents z).map (·.1))
    (hr : (ents z).length + dels z < 7 * G ∨ ∃ g i, Spr z G (hsh x k) g i ∧ (cel z (8 * g + i)).1 = 254) :
    Calls Tryz.prog 199 #[ptr p, .int .u64 (hsh x k : Nat), .agg #[.string k, .int .u64 v]] w fun e w' => e = .returned (.tuple #[]) ∧ Moves w w' p b ∧ ∃ z', Tab w' B p b x G z' ∧ (ents z').Perm (ents z ++ [(k, v)]) ∧ dels z' ≤ dels z := by
  have hh := hsh_lt x k
  have HT : Hid (Tab w B p b x G z) := hT
  have HKS : Hid (k.size ≤ maxLen) := hks
  have HKN : Hid (k ∉ (ents z).map (·.1)) := hk
  have HR : Hid ((ents z).length + dels z < 7 * G ∨ ∃ g i, Spr z G (hsh x k) g i ∧ (cel z (8 * g + i)).1 = 254) := hr
  have hG := hT.inv.grp.le
  have HS := fun w hT => spare_any B p b x G (hsh x k) z w hT hh
  have H7 := fun w => Seven_nat (hsh x k) w hh
  have HSV : Hid (sev (hsh x k) < 128) := sev_lt x k
  obtain ⟨h, eh⟩ : ∃ h, hsh x k = h := ⟨_, rfl⟩
  have HEh : Hid (hsh x k = h) := eh
  rw [eh] at HS H7 hh HR HSV ⊢
  clear hT hk hr eh hks
  obtain ⟨w1, hw1⟩ : ∃ w1, w.alloc (.cells #[.string k, .int .u64 v] 195) = w1 := ⟨_, rfl⟩
  have HB1 : Hid (Below w.heap.size w w1) := by show Below _ _ _; rw [← hw1]; exact alloc_below w _
  obtain ⟨q, hq⟩ : ∃ q, w.heap.size = q := ⟨_, rfl⟩
  have HQ : Hid (w.heap.size = q) := hq
  have HX1 : Hid (Box w1 q k v) := by show Box _ _ _ _; rw [← hw1, ← hq]; exact Box.made w k v
  have HT1 : Hid (Tab w1 B p b x G z) := HT.out.keep HB1.out
  go_enter Tryz.func199, Tryz.ntmps199
  go_wp2_with fail
  refine (HS _ HT1.out).mono ?_
  rintro e w2 ⟨hb2, g, i, rfl, hsp⟩
  have HB2 := step_below HB1 hb2
  have HT2 : Hid (Tab w2 B p b x G z) := HT1.out.keep hb2
  have HX2 : Hid (Box w2 q k v) := HX1.out.keep hb2
  have HSP : Hid (Spr z G h g i) := hsp
  obtain ⟨j, hj, hjg, hi8, hfr, hfi, hno⟩ := hsp
  have HF : Hid (128 ≤ (cel z (8 * g + i)).1) := hfr
  have hgG : g < G := by rw [← hjg]; exact gAt_lt HT.out.inv.grp.pos h j
  have hgz : (g : Int) < G := by omega
  have hiz : (i : Int) < 8 := by omega
  have HSet := fun w => Set_in (HT.out.inv.ok hgG) i (sev h) hi8 (by have := HSV.out; omega) w
  have HWD : Hid (∀ w', Below w2.heap.size w2 w' → w'.cell? ⟨p, 1, none⟩ = some (.slice (some ⟨b, 0, none⟩) G G) ∧ w'.cell? ⟨b, g * 17, none⟩ = some (.int .u64 (val (wrd z g) : Nat)) ∧ w'.frozen? ⟨b, g * 17, none⟩ = false) :=
    fun w' hb => ⟨(HT2.out.keep hb).top.groups, (HT2.out.keep hb).row.word hgG, (HT2.out.keep hb).row.frozen _⟩
  obtain ⟨wv, ewv⟩ : ∃ wv, val (wrd z g) = wv := ⟨_, rfl⟩
  rw [ewv] at HSet HWD
  obtain ⟨wn, ewn⟩ : ∃ wn, val ((wrd z g).set i (sev h)) = wn := ⟨_, rfl⟩
  have HWN : Hid (val ((wrd z g).set i (sev h)) = wn) := ewn
  rw [ewn] at HSet
  obtain ⟨sv, esv⟩ : ∃ sv, sev h = sv := ⟨_, rfl⟩
  have HSE : Hid (sev h = sv) := esv
  rw [esv] at H7 HSet
  have HD : Hid (Below w2.heap.size w2 w2.drew) := below_drewN w2 1
  clear hb2 hj hjg hfr hfi hno ewv ewn esv hw1 hq
  obtain ⟨hc2, hw2, hf2⟩ := HWD.out w2 (Below.refl _ _)
  have HAft : Hid (∀ w', Below w2.heap.size w2 w' → After w2 (w'.setCell ⟨b, g * 17, none⟩ (.int .u64 (wn : Nat))) p b x G (z.set (8 * g + i) (sv, (cel z (8 * g + i)).2)) q k v) := by
    intro w' hb
    have hT' := HT2.out.keep hb
    have hne := hT'.top.ne hT'.row
    have hR' := hT'.row.byte HT.out.inv.len hgG hi8 sv
    rw [← HSE.out, HWN.out, HSE.out] at hR'
    have hB' := HX2.out.keep hb
    exact ⟨hT'.top.kept (Below.heap_setCell _ _ _ _ (by simpa using hne)), hR', Moves.trans (Moves.of_below hb p b) (Moves.set (.inr rfl)) (.inl rfl), hB'.kept (Below.heap_setCell _ _ _ _ (by simpa using hB'.ne hT'.row))⟩
  have HIN : Hid (Inv x G (z.set (8 * g + i) (sv, k, v)) ∧ (ents (z.set (8 * g + i) (sv, k, v))).Perm (ents z ++ [(k, v)]) ∧ dels (z.set (8 * g + i) (sv, k, v)) ≤ dels z) := by
    obtain ⟨j, hj, hjg, hi8, hfr, hfi, hno⟩ := HSP.out
    have := HT.out.inv.lay v HKN.out (j := j) (i := i) hj hi8 (by rw [HEh.out, hjg]; exact hfr) (by rw [HEh.out]; exact hno) (by
      rw [HEh.out, hjg]
      rcases HR.out with h1 | ⟨g', i', h1, h2⟩
      · exact .inr h1
      · obtain ⟨rfl, rfl⟩ := HSP.out.one h1
        exact .inl h2)
    rw [HEh.out, hjg, HSE.out] at this
    exact this
  have HLEN : Hid (z.length = 8 * G) := HT.out.inv.len
  have HLO : Hid (B ≤ p ∧ B ≤ b ∧ x < 18446744073709551616 ∧ ∀ e ∈ ents (z.set (8 * g + i) (sv, k, v)), e.1.size ≤ maxLen) := by
    refine ⟨HT.out.low, HT.out.lowb, HT.out.seed, fun e he => ?_⟩
    rcases List.mem_append.1 (HIN.out.2.1.mem_iff.1 he) with he | he
    · exact HT.out.siz e he
    · rw [List.mem_singleton.1 he]; exact HKS.out
  clear HKS HS HX1 HB1 HT1 HSP HF HKN HR HEh HT HSV
  go_upto_region 2 with fail
  go_cut [] from 14 to 32 (fun wx => Hid (After w2 wx p b x G (z.set (8 * g + i) (sv, (cel z (8 * g + i)).2)) q k v))
  case first =>
    go_region_with (first
      | (go_at_call 183; refine (H7 _).mono ?_; rintro e wx ⟨rfl, rfl⟩)
      | (go_at_call 172; refine (HSet _).mono ?_; rintro e wx ⟨rfl, hb⟩; replace HD := step_below HD hb; obtain ⟨hc3, hw3, hf3⟩ := HWD.out wx HD.out; clear hb))
    all_goals (go_wp2; go_meet; exact HAft.out _ HD.out)
  case rest =>
  clear H7 HSet HWD hc2 hw2 hf2 HAft HD HX2 HT2
  obtain ⟨zz, hzz⟩ : ∃ zz, z.set (8 * g + i) (sv, (cel z (8 * g + i)).2) = zz := ⟨_, rfl⟩
  rw [hzz] at hcut
  have HC : Hid (After w2 wc p b x G zz q k v) := hcut
  have HRow : Hid (∀ n, Row (((wc.setCell ⟨b, g * 17 + 1 + i * 2, none⟩ (.string k)).setCell ⟨b, g * 17 + 1 + i * 2 + 1, none⟩ (.int .u64 v)).drewN n) b G (z.set (8 * g + i) (sv, k, v))) := by
    intro n
    have hl : zz.length = 8 * G := by rw [← hzz, List.length_set]; exact HLEN.out
    have := HC.out.row.slot hl hgG hi8 k v
    rw [← hzz, cel_set z (by rw [HLEN.out]; omega), List.set_set] at this
    exact this.kept (by rw [heap_drewN])
  have HTop : Hid (∀ n, Top (((wc.setCell ⟨b, g * 17 + 1 + i * 2, none⟩ (.string k)).setCell ⟨b, g * 17 + 1 + i * 2 + 1, none⟩ (.int .u64 v)).drewN n) p b x G) := by
    intro n
    have hne := HC.out.top.ne HC.out.row
    refine HC.out.top.kept ?_
    rw [heap_drewN, Below.heap_setCell _ _ _ _ (by simpa using hne), Below.heap_setCell _ _ _ _ (by simpa using hne)]
  have HMov : Hid (∀ n, Moves w (((wc.setCell ⟨b, g * 17 + 1 + i * 2, none⟩ (.string k)).setCell ⟨b, g * 17 + 1 + i * 2 + 1, none⟩ (.int .u64 v)).drewN n) p b) := by
    intro n
    have h1 : Moves w wc p b := (Moves.of_below HB2.out p b).trans HC.out.mov (.inl rfl)
    have h2 : Moves w _ p b := (h1.trans (Moves.set (o := g * 17 + 1 + i * 2) (v := .string k) (.inr rfl)) (.inl rfl)).trans (Moves.set (o := g * 17 + 1 + i * 2 + 1) (v := .int .u64 v) (.inr rfl)) (.inl rfl)
    exact h2.trans (Moves.of_below (below_drewN _ n) p b) (.inl rfl)
  have hc := HC.out.top.groups
  have hk := HC.out.box.key
  have hv := HC.out.box.vl
  have hck := HC.out.row.key hgG hi8
  have hcv := HC.out.row.vl hgG hi8
  have hfk := HC.out.row.frozen (g * 17 + 1 + i * 2)
  have hfv := HC.out.row.frozen (g * 17 + 1 + i * 2 + 1)
  generalize (cel zz (8 * g + i)).2.1 = k0 at hck
  generalize (cel zz (8 * g + i)).2.2 = v0 at hcv
  clear hcut hzz
  go_wp2
  go_region
  all_goals (go_end0; exact ⟨rfl, HMov.out 1, _, ⟨HTop.out 1, HRow.out 1, HLO.out.1, HLO.out.2.1, HIN.out.1, HLO.out.2.2.1, HLO.out.2.2.2⟩, HIN.out.2⟩)
theorem fresh_key {es : List En} {i : Nat} (hn : (es.map (·.1)).Nodup) (hi : i < es.length) : (es.getD i (⟨#[]⟩, 0)).1 ∉ (es.take i).map (·.1) := by
  have h1 : (es.take (i + 1)).map (·.1) = (es.take i).map (·.1) ++ [(es.getD i (⟨#[]⟩, 0)).1] := by rw [take_snoc es (⟨#[]⟩, 0) i hi, List.map_append]; rfl
  have h2 : ((es.take (i + 1)).map (·.1)).Nodup := List.Sublist.nodup (List.Sublist.map _ (List.take_sublist _ _)) hn
  rw [h1, List.nodup_append] at h2
  intro hm
  exact h2.2.2 _ hm _ (by simp) rfl
set_option maxRecDepth 100000 in
set_option maxHeartbeats 4000000 in
theorem makeRoom_any (B p b x G : Nat) (z : List Cl) (w : World) (hT : Tab w B p b x G z) (hlen : (ents z).length < 112) :
    Calls Tryz.prog 198 #[ptr p] w fun e w' => e = .returned (.tuple #[]) ∧ Moves w w' p b ∧ ∃ b' G' z', Tab w' B p b' x G' z' ∧ w.heap.size ≤ b' ∧ (ents z').Perm (ents z) ∧ (ents z').length + dels z' < 7 * G' := by
  have HF := full_any B p b x G z w hT
  have HT : Hid (Tab w B p b x G z) := hT
  have hG := hT.inv.grp.le
  have HND : Hid (((ents z).map (·.1)).Nodup) := hT.inv.nod
  have HSZ : Hid (∀ e ∈ ents z, e.1.size ≤ maxLen) := hT.siz
  have HRO : Hid ((ents z).length ≤ 7 * G) := by have := hT.inv.room; show _ ≤ _; omega
  have HGP : Hid (isG G) := hT.inv.grp
  have HLO : Hid (B ≤ p ∧ p < w.heap.size ∧ x < 18446744073709551616) := ⟨hT.low, hT.top.lt, hT.seed⟩
  clear hT
  obtain ⟨es, hes⟩ : ∃ es, ents z = es := ⟨_, rfl⟩
  rw [hes] at HF HND HSZ HRO hlen ⊢
  clear hes
  obtain ⟨G', hG'⟩ : ∃ G', (if 7 * G ≤ es.length then 2 * G else G) = G' := ⟨_, rfl⟩
  have HG' : Hid (isG G' ∧ es.length < 7 * G') := by
    have h0 := HGP.out.pos
    have h1 := HRO.out
    split at hG'
    · subst hG'; exact ⟨HGP.out.two (by omega), by omega⟩
    · subst hG'; exact ⟨HGP.out, by omega⟩
  have hG16 : G' ≤ 16 := HG'.out.1.le
  go_enter Tryz.func198, Tryz.ntmps198
  go_wp2_with fail
  refine HF.mono ?_
  rintro e w1 ⟨hb1, ae, ne, ce, rfl, hO⟩
  have HB1 : Hid (Below w.heap.size w w1) := hb1
  have HT1 : Hid (Tab w1 B p b x G z) := HT.out.keep hb1
  have HO1 : Hid (OwnE w1 w.heap.size ae ne ce es) := hO
  have HNE : Hid (es.length = ne) := OwnE.len hO
  rw [HNE.out] at hG' hlen
  have hc1 := HT1.out.top.groups
  have hs1 := HB1.out.size
  clear hb1 hO HF
  go_upto_if 17 with fail
  go_cut [3] from 18 to 19 (fun v wx => v = .int .i64 G' ∧ wx = w1)
  case first =>
    by_cases hf : 7 * G ≤ ne
    · rw [if_pos hf] at hG'
      subst hG'
      go_wp2
      go_meet
      exact ⟨by go_num, rfl⟩
    · rw [if_neg hf] at hG'
      subst hG'
      go_wp2
      go_meet
      exact ⟨rfl, rfl⟩
  case rest =>
  obtain ⟨rfl, rfl⟩ := hcut
  clear hG'
  have HE := emptyGroups_any G' wc hG16
  obtain ⟨b', hb'⟩ : ∃ b', wc.heap.size = b' := ⟨_, rfl⟩
  have HBb : Hid (wc.heap.size = b') := hb'
  rw [hb'] at HE
  clear hb' hc1
  go_wp2_with fail
  refine HE.mono ?_
  rintro e w2 ⟨rfl, hb2, hR2⟩
  have HB2 : Hid (Below wc.heap.size wc w2) := by rw [HBb.out]; exact hb2
  have HTp2 : Hid (Top w2 p b x G) := HT1.out.top.keep HB2.out
  have HR2 : Hid (Row w2 b' G' (news0 G')) := hR2
  have hc2 := HTp2.out.groups
  have hf2 := HTp2.out.frozen 1
  obtain ⟨w3, hw3⟩ : ∃ w3, w2.setCell ⟨p, 1, none⟩ (.slice (some ⟨b', 0, none⟩) G' G') = w3 := ⟨_, rfl⟩
  have HM3 : Hid (Moves w w3 p b) := by
    show Moves _ _ _ _
    rw [← hw3]
    exact ((Moves.of_below HB1.out p b).trans (Moves.of_below HB2.out p b) (.inl rfl)).trans (Moves.set (.inl rfl)) (.inl rfl)
  have hwb : w.heap.size ≤ b' := by rw [← HBb.out]; exact hs1
  have HT3 : Hid (Tab w3 B p b' x G' (news0 G')) := by
    have hne := HTp2.out.ne HR2.out
    show Tab _ _ _ _ _ _ _
    rw [← hw3]
    exact ⟨HTp2.out.set b' G', HR2.out.kept (Below.heap_setCell _ _ _ _ (by simpa using hne.symm)), HLO.out.1, Nat.le_trans (Nat.le_trans HLO.out.1 (Nat.le_of_lt HLO.out.2.1)) hwb, Inv.news x HG'.out.1, HLO.out.2.2, fun e he => by rw [ents_news0] at he; cases he⟩
  have HO3 : Hid (OwnE w3 w.heap.size ae ne ce es) := (OwnR.keep HO1.out HB2.out).kept fun k hk => by
    rw [← hw3]
    refine Below.heap_setCell _ _ _ _ ?_
    rintro rfl
    obtain ⟨-, -, cur, h3⟩ := (OwnR.keep HO1.out HB2.out).lt hk
    rw [HTp2.out.blk] at h3
    simp at h3
  have hne : ne ≤ 200 := by omega
  clear hb2 hR2 HE
  go_wp2
  clear hw3 hc2 hf2
  go_loopg [5, 27] ne (fun q sv jv wr => ∃ (i : Nat) (zi : List Cl), i + q = ne ∧ jv = .int .i64 i ∧ Hid (Tab wr B p b' x G' zi ∧ (ents zi).Perm (es.take i) ∧ dels zi = 0) ∧ Hid (OwnE wr w.heap.size ae ne ce es) ∧ Hid (Moves w wr p b))
  case atStart => exact ⟨0, _, by omega, rfl, ⟨HT3.out, by rw [ents_news0]; exact List.Perm.refl _, dels_news0 _⟩, HO3, HM3⟩
  case round =>
    clear HO3 HT3 HM3 HR2 HTp2 HB2
    obtain ⟨i, zi, hi, rfl, HZ, HO, HM⟩ := hrel
    by_cases h8 : (i : Int) < ne
    · obtain ⟨gE, ha, hk, hv⟩ := OwnE.cell HO.out (j := i) (by omega)
      subst ha
      have hil : i < es.length := by have := HNE.out; omega
      have HFR : Hid ((es.getD i (⟨#[]⟩, 0)).1 ∉ (ents zi).map (·.1)) := by
        intro hm
        exact fresh_key HND.out hil ((HZ.out.2.1.map (·.1)).mem_iff.1 hm)
      have HKS : Hid ((es.getD i (⟨#[]⟩, 0)).1.size ≤ maxLen) := HSZ.out _ (by rw [List.getD_eq_getElem?_getD, List.getElem?_eq_getElem hil]; exact List.getElem_mem hil)
      have HTS : Hid (es.take (i + 1) = es.take i ++ [es.getD i (⟨#[]⟩, 0)]) := take_snoc es _ i hil
      generalize es.getD i (⟨#[]⟩, 0) = ev at hk hv HFR HKS HTS
      obtain ⟨k, v⟩ := ev
      simp only [] at hk hv
      obtain ⟨w4, hw4⟩ : ∃ w4, wr.alloc (.cells #[.string k, .int .u64 v] 195) = w4 := ⟨_, rfl⟩
      obtain ⟨q, hq⟩ : ∃ q, wr.heap.size = q := ⟨_, rfl⟩
      have HB4 : Hid (Below wr.heap.size wr w4) := by show Below _ _ _; rw [← hw4]; exact alloc_below wr _
      have HX4 : Hid (Box w4 q k v) := by show Box _ _ _ _; rw [← hw4, ← hq]; exact Box.made wr k v
      have HT4 : Hid (Tab w4 B p b' x G' zi) := HZ.out.1.keep HB4.out
      have HO4 : Hid (OwnE w4 w.heap.size (some ⟨gE, 0, none⟩) ne ce es) := OwnR.keep HO.out HB4.out
      have HM4 : Hid (Moves w w4 p b) := HM.out.trans (Moves.of_below HB4.out p b) (.inl rfl)
      have HOf : ∀ w, Calls Tryz.prog 92 #[.int .u64 x, .string k] w fun e w' => e = .returned (.int .u64 (hsh x k : Nat)) ∧ w' = w := fun w => Of_any x k w HKS.out HLO.out.2.2
      have HLy := fun w hT => lay_any B p b' x G' zi k v w hT HKS.out HFR.out (.inl (by
        have h1 := HZ.out.2.1.length_eq
        have h2 := HZ.out.2.2
        have h3 := HG'.out.2
        rw [List.length_take] at h1
        omega))
      generalize hsh x k = hv at HOf HLy
      have HTd : Hid (Tab w4.drew B p b' x G' zi) := HT4.out.keep (below_drewN w4 1)
      have HXd : Hid (Box w4.drew q k v) := HX4.out.keep (below_drewN w4 1)
      have HOd : Hid (OwnE w4.drew w.heap.size (some ⟨gE, 0, none⟩) ne ce es) := OwnR.keep HO4.out (below_drewN w4 1)
      have HMd : Hid (Moves w w4.drew p b) := HM4.out.trans (Moves.of_below (below_drewN w4 1) p b) (.inl rfl)
      clear hil HKS HFR HB4 HX4 HT4 HO4 HM4 HO HM
      go_upto_region 8 with fail
      go_region_held3 (fun w' => w'.cell? ⟨p, 0, none⟩ = some (.int .u64 (x : Nat)) ∧ w'.cell? ⟨q, 0, none⟩ = some (.string k) ∧ w'.cell? ⟨q, 1, none⟩ = some (.int .u64 v)) (exact ⟨HTd.out.top.seed, HXd.out.key, HXd.out.vl⟩) (first
        | (go_at_call 92; refine (HOf _).mono ?_; rintro e wx ⟨rfl, rfl⟩)
        | (go_at_call 199; refine (HLy _ HTd.out).mono ?_; rintro e wx ⟨rfl, hm, z2, hT2, hp2, hd2⟩; replace HXd : Hid (Box wx q k v) := HXd.out.moves hm HTd.out; replace HOd : Hid (OwnE wx w.heap.size (some ⟨gE, 0, none⟩) ne ce es) := OwnR.moves HOd.out hm HTd.out (by decide) (by decide); replace HMd : Hid (Moves w wx p b) := HMd.out.trans hm (.inr hwb); have HZ2 : Hid (Tab wx B p b' x G' z2 ∧ (ents z2).Perm (es.take (i + 1)) ∧ dels z2 = 0) := ⟨hT2, by rw [HTS.out]; exact hp2.trans (List.Perm.append_right _ HZ.out.2.1), by have := HZ.out.2.2; omega⟩; replace HTd : Hid (Tab wx B p b' x G' z2) := hT2; clear hm hT2 hp2 hd2))
      clear HTd HXd HOf HLy
      go_wp2
      go_roundg (gk - 1)
      case measure => omega
      case rel => exact ⟨i + 1, z2, by omega, by go_num, HZ2, HOd, HMd⟩
    · have HE : Hid (es.take i = es) := by show _ = _; rw [List.take_of_length_le (by have := HNE.out; omega)]
      go_wp2
      go_end0
      refine ⟨rfl, HM.out, b', G', zi, HZ.out.1, hwb, by have := HZ.out.2.1; rw [HE.out] at this; exact this, ?_⟩
      have h1 := HZ.out.2.1.length_eq
      have h2 := HZ.out.2.2
      have h3 := HG'.out.2
      rw [HE.out] at h1
      omega
/-- A table with one key more. -/
def More (w w' : World) (B p b x : Nat) (z : List Cl) (k : ByteArray) (v : Int) : Prop :=
  Moves w w' p b ∧ ∃ b' G' z', Tab w' B p b' x G' z' ∧ (b' = b ∨ w.heap.size ≤ b') ∧ (ents z').Perm (ents z ++ [(k, v)])
set_option maxRecDepth 100000 in
set_option maxHeartbeats 4000000 in
theorem add_any (B p b x G : Nat) (z : List Cl) (k : ByteArray) (v : Int) (w : World) (hT : Tab w B p b x G z) (hks : k.size ≤ maxLen) (hk : k ∉ (ents z).map (·.1)) (hlen : (ents z).length < 112) :
    Calls Tryz.prog 138 #[ptr p, .int .u64 (hsh x k : Nat), .agg #[.string k, .int .u64 v]] w fun e w' => e = .returned (.tuple #[]) ∧ More w w' B p b x z k v := by
  have hh := hsh_lt x k
  have HT : Hid (Tab w B p b x G z) := hT
  have HKS : Hid (k.size ≤ maxLen) := hks
  have HKN : Hid (k ∉ (ents z).map (·.1)) := hk
  have hG := hT.inv.grp.le
  have HS := fun w hT => spare_any B p b x G (hsh x k) z w hT hh
  have HLe := fun w hT => Len_any B p b x G z w hT
  have HMa := fun w hT => Marks_any B p b x G z w hT
  have HMR := fun w hT => makeRoom_any B p b x G z w hT hlen
  have HL1 := fun b G z w hT (hk : k ∉ (ents z).map (·.1)) hr => lay_any B p b x G z k v w hT hks hk hr
  have HRO : Hid ((ents z).length + dels z ≤ 7 * G) := hT.inv.room
  obtain ⟨h, eh⟩ : ∃ h, hsh x k = h := ⟨_, rfl⟩
  rw [eh] at HS hh HL1 ⊢
  clear hT hk eh hks
  obtain ⟨w1, hw1⟩ : ∃ w1, w.alloc (.cells #[.string k, .int .u64 v] 195) = w1 := ⟨_, rfl⟩
  have HB1 : Hid (Below w.heap.size w w1) := by show Below _ _ _; rw [← hw1]; exact alloc_below w _
  obtain ⟨q, hq⟩ : ∃ q, w.heap.size = q := ⟨_, rfl⟩
  have HX1 : Hid (Box w1 q k v) := by show Box _ _ _ _; rw [← hw1, ← hq]; exact Box.made w k v
  have HT1 : Hid (Tab w1 B p b x G z) := HT.out.keep HB1.out
  go_enter Tryz.func138, Tryz.ntmps138
  go_wp2_with fail
  refine (HS _ HT1.out).mono ?_
  rintro e w2 ⟨hb2, g, i, rfl, hsp⟩
  have HB2 := step_below HB1 hb2
  have HT2 : Hid (Tab w2 B p b x G z) := HT1.out.keep hb2
  have HX2 : Hid (Box w2 q k v) := HX1.out.keep hb2
  have HSP : Hid (Spr z G h g i) := hsp
  obtain ⟨j, hj, hjg, hi8, hfr, -, -⟩ := hsp
  have hgG : g < G := by rw [← hjg]; exact gAt_lt HT.out.inv.grp.pos h j
  have hgz : (g : Int) < G := by omega
  have HA := fun w => At_in (HT.out.inv.ok hgG) i hi8 w
  rw [wrd_get HT.out.inv.len hgG hi8] at HA
  have HByt : Hid ((cel z (8 * g + i)).1 = 128 ∨ (cel z (8 * g + i)).1 = 254) := by
    rcases HT.out.inv.byt (8 * g + i) (by omega) with h1 | h1 | h1
    · omega
    · exact .inl h1
    · exact .inr h1
  have HWD : Hid (∀ w', Below w2.heap.size w2 w' → w'.cell? ⟨p, 1, none⟩ = some (.slice (some ⟨b, 0, none⟩) G G) ∧ w'.cell? ⟨b, g * 17, none⟩ = some (.int .u64 (val (wrd z g) : Nat))) :=
    fun w' hb => ⟨(HT2.out.keep hb).top.groups, (HT2.out.keep hb).row.word hgG⟩
  obtain ⟨wv, ewv⟩ : ∃ wv, val (wrd z g) = wv := ⟨_, rfl⟩
  rw [ewv] at HA HWD
  obtain ⟨bt, ebt⟩ : ∃ bt, (cel z (8 * g + i)).1 = bt := ⟨_, rfl⟩
  have HEB : Hid ((cel z (8 * g + i)).1 = bt) := ebt
  rw [ebt] at HA HByt
  have HD : Hid (Below w2.heap.size w2 w2.drew) := below_drewN w2 1
  have HTd : Hid (Tab w2.drew B p b x G z) := HT2.out.keep HD.out
  obtain ⟨m, em⟩ : ∃ m, (ents z).length = m := ⟨_, rfl⟩
  obtain ⟨d, ed⟩ : ∃ d, dels z = d := ⟨_, rfl⟩
  rw [em] at HLe hlen
  rw [ed] at HMa
  rw [em, ed] at HRO
  have hd : d ≤ 112 := by have := HRO.out; omega
  have HEM : Hid ((ents z).length = m) := em
  have HED : Hid (dels z = d) := ed
  have HNX : Hid (∀ w', Below w2.heap.size w2 w' → Tab w' B p b x G z ∧ Box w' q k v ∧ Moves w w' p b) := fun w' hb => ⟨HT2.out.keep hb, HX2.out.keep hb, (Moves.of_below HB2.out p b).trans (Moves.of_below hb p b) (.inl rfl)⟩
  clear hb2 hj hjg hfr ewv ebt hw1 hq HS HX1 HT1 HB1 HB2 em ed
  have hw7 : IntKind.i64.wrap (7 * (G : Int)) = 7 * (G : Int) := by rw [IntKind.wrap_i64]; omega
  have hwm : IntKind.i64.wrap ((m : Int) + (d : Int)) = (m : Int) + (d : Int) := by rw [IntKind.wrap_i64]; omega
  go_upto_region 2 with fail
  rcases HByt.out with e1 | e1
  · subst e1
    go_region_held3 (fun w' => w'.cell? ⟨p, 1, none⟩ = some (.slice (some ⟨b, 0, none⟩) G G) ∧ w'.cell? ⟨b, g * 17, none⟩ = some (.int .u64 (wv : Nat))) (exact HWD.out _ HD.out) (first
      | (go_at_call 188; refine (HA _).mono ?_; rintro e wx ⟨rfl, rfl⟩)
      | (go_at_call 137; refine (HLe _ HTd.out).mono ?_; rintro e wx ⟨rfl, rfl⟩)
      | (go_at_call 197; refine (HMa _ HTd.out).mono ?_; rintro e wx ⟨rfl, hb⟩; replace HD := step_below HD hb; replace HTd : Hid (Tab wx B p b x G z) := HTd.out.keep hb; clear hb))
    clear HWD HA HLe HMa HByt
    have hk1 := (HNX.out _ HD.out).2.1.key
    have hv1 := (HNX.out _ HD.out).2.1.vl
    have HMv : Hid (Moves w wx p b) := (HNX.out _ HD.out).2.2
    by_cases hf : 7 * (G : Int) ≤ (m : Int) + (d : Int)
    · go_wp2_with fail
      refine (HMR _ HTd.out).mono ?_
      rintro e w3 ⟨rfl, hm3, b3, G3, z3, hT3, hb3, hp3, hr3⟩
      have HX3 : Hid (Box w3 q k v) := (HNX.out _ HD.out).2.1.moves hm3 HTd.out
      have HT3 : Hid (Tab w3 B p b3 x G3 z3) := hT3
      have HM3 : Hid (Moves w w3 p b) := HMv.out.trans hm3 (.inl rfl)
      have HP3 : Hid ((ents z3).Perm (ents z)) := hp3
      have HB3 : Hid (w.heap.size ≤ b3) := Nat.le_trans HMv.out.size hb3
      have HKN3 : k ∉ (ents z3).map (·.1) := fun hm => HKN.out ((hp3.map (·.1)).mem_iff.1 hm)
      have HLy := HL1 b3 G3 z3 w3 hT3 HKN3 (.inl hr3)
      have hk3 := HX3.out.key
      have hv3 := HX3.out.vl
      clear hm3 hT3 hb3 hp3 hr3 HKN3 HL1 HMR hk1 hv1
      go_wp2_with fail
      refine HLy.mono ?_
      rintro e w4 ⟨rfl, hm4, z4, hT4, hp4, -⟩
      have HR : Hid (More w w4 B p b x z k v) := ⟨HM3.out.trans hm4 (.inr HB3.out), b3, G3, z4, hT4, .inr HB3.out, hp4.trans (List.Perm.append_right _ HP3.out)⟩
      clear hm4 hT4 hp4
      go_wp2
      go_end0
      exact ⟨rfl, HR.out⟩
    · have HLy := HL1 b G z wx HTd.out HKN.out (.inl (by have := HEM.out; have := HED.out; omega))
      clear HL1 HMR
      go_wp2_with fail
      refine HLy.mono ?_
      rintro e w4 ⟨rfl, hm4, z4, hT4, hp4, -⟩
      have HR : Hid (More w w4 B p b x z k v) := ⟨HMv.out.trans hm4 (.inl rfl), b, G, z4, hT4, .inl rfl, hp4⟩
      clear hm4 hT4 hp4
      go_wp2
      go_end0
      exact ⟨rfl, HR.out⟩
  · subst e1
    have hc2 := HT2.out.top.groups
    have hw2 := (HWD.out _ (Below.refl _ _)).2
    go_quiet ((go_at_call 188; refine Calls.quiet_of_same (HA _)))
    clear HWD HA HLe HMa HByt hc2 hw2
    obtain ⟨wx, hwx⟩ : ∃ wx, w2.drewN nq = wx := ⟨_, rfl⟩
    have HDx : Hid (Below w2.heap.size w2 wx) := by show Below _ _ _; rw [← hwx]; exact below_drewN w2 nq
    rw [hwx]
    clear hwx
    have hk1 := (HNX.out _ HDx.out).2.1.key
    have hv1 := (HNX.out _ HDx.out).2.1.vl
    have HMv : Hid (Moves w wx p b) := (HNX.out _ HDx.out).2.2
    have HLy := HL1 b G z wx (HNX.out _ HDx.out).1 HKN.out (.inr ⟨g, i, HSP.out, HEB.out⟩)
    clear HL1 HMR
    go_wp2_with fail
    refine HLy.mono ?_
    rintro e w4 ⟨rfl, hm4, z4, hT4, hp4, -⟩
    have HR : Hid (More w w4 B p b x z k v) := ⟨HMv.out.trans hm4 (.inl rfl), b, G, z4, hT4, .inl rfl, hp4⟩
    clear hm4 hT4 hp4
    go_wp2
    go_end0
    exact ⟨rfl, HR.out⟩
theorem Put_new (B p b x G : Nat) (z : List Cl) (k : ByteArray) (v : Int) (w : World) (hT : Tab w B p b x G z) (hks : k.size ≤ maxLen) (hk : k ∉ (ents z).map (·.1)) (hlen : (ents z).length < 112) :
    Calls Tryz.prog 104 #[ptr p, .string k, .int .u64 v] w fun e w' => e = .returned (.int .i64 0) ∧ More w w' B p b x z k v := by
  have hc := hT.top.seed
  have HO : ∀ w, Calls Tryz.prog 92 #[.int .u64 x, .string k] w fun e w' => e = .returned (.int .u64 (hsh x k : Nat)) ∧ w' = w := fun w => Of_any x k w hks hT.seed
  have HF := fun w hT => find_any B p b x G z k w hT
  have HAd := fun w hT => add_any B p b x G z k v w hT hks hk hlen
  have HLe := fun w hT => Len_any B p b x G z w hT
  have HT : Hid (Tab w B p b x G z) := hT
  have HM : Hid (k ∉ (ents z).map (·.1)) := hk
  generalize hsh x k = h at HO HF HAd
  generalize (ents z).length = m at HLe hlen
  clear hT hk hks
  go_enter Tryz.func104, Tryz.ntmps104
  go_wp2_with fail
  refine (HO _).mono ?_
  rintro e w ⟨rfl, rfl⟩
  go_wp2_with fail
  refine (HF _ HT.out).mono ?_
  rintro e w1 ⟨hb, hF⟩
  have HT1 : Hid (Tab w1 B p b x G z) := HT.out.keep hb
  have HB1 : Hid (Below w.heap.size w w1) := hb
  rcases hF with ⟨g, i, hg, hi, h1, h2, rfl⟩ | ⟨h1, rfl⟩
  · exact absurd (List.mem_map.2 ⟨_, mem_ents.2 ⟨8 * g + i, by rw [HT.out.inv.len]; omega, h1, rfl⟩, h2⟩) HM.out
  · clear h1 hb hc HO HF
    go_wp2_with fail
    refine (HLe _ HT1.out).mono ?_
    rintro e w1 ⟨rfl, rfl⟩
    go_wp2_with fail
    refine (HAd _ HT1.out).mono ?_
    rintro e w2 ⟨rfl, hm, b2, G2, z2, hT2, hb2, hp2⟩
    have HR : Hid (More w w2 B p b x z k v) := ⟨(Moves.of_below HB1.out p b).trans hm (.inl rfl), b2, G2, z2, hT2, hb2.imp id (fun h => Nat.le_trans HB1.out.size h), hp2⟩
    clear hm hT2 hb2 hp2
    go_wp2
    go_ret
    exact ⟨rfl, HR.out⟩
theorem Put_full (B p b x G : Nat) (z : List Cl) (k : ByteArray) (v : Int) (w : World) (hT : Tab w B p b x G z) (hks : k.size ≤ maxLen) (hk : k ∉ (ents z).map (·.1)) (hlen : 112 ≤ (ents z).length) :
    Calls Tryz.prog 104 #[ptr p, .string k, .int .u64 v] w fun e w' => e = .returned (.int .i64 23) ∧ Below w.heap.size w w' := by
  have hc := hT.top.seed
  have HO : ∀ w, Calls Tryz.prog 92 #[.int .u64 x, .string k] w fun e w' => e = .returned (.int .u64 (hsh x k : Nat)) ∧ w' = w := fun w => Of_any x k w hks hT.seed
  have HF := fun w hT => find_any B p b x G z k w hT
  have HLe := fun w hT => Len_any B p b x G z w hT
  have HT : Hid (Tab w B p b x G z) := hT
  have HM : Hid (k ∉ (ents z).map (·.1)) := hk
  generalize hsh x k = h at HO HF
  generalize (ents z).length = m at HLe hlen
  clear hT hk hks
  go_enter Tryz.func104, Tryz.ntmps104
  go_wp2_with fail
  refine (HO _).mono ?_
  rintro e w ⟨rfl, rfl⟩
  go_wp2_with fail
  refine (HF _ HT.out).mono ?_
  rintro e w1 ⟨hb, hF⟩
  have HT1 : Hid (Tab w1 B p b x G z) := HT.out.keep hb
  have HB1 : Hid (Below w.heap.size w w1) := hb
  rcases hF with ⟨g, i, hg, hi, h1, h2, rfl⟩ | ⟨h1, rfl⟩
  · exact absurd (List.mem_map.2 ⟨_, mem_ents.2 ⟨8 * g + i, by rw [HT.out.inv.len]; omega, h1, rfl⟩, h2⟩) HM.out
  · clear h1 hb hc HO HF
    go_wp2_with fail
    refine (HLe _ HT1.out).mono ?_
    rintro e w1 ⟨rfl, rfl⟩
    have hl : (112 : Int) ≤ m := by omega
    go_wp2
    go_ret
    exact ⟨rfl, HB1.out⟩
/-- A table in which a key has something else. -/
def Turned (w w' : World) (B p b x G : Nat) (z : List Cl) (k : ByteArray) (v : Int) : Prop :=
  Moves w w' p b ∧ ∃ z', Tab w' B p b x G z' ∧ ∃ a c u, ents z = a ++ (k, u) :: c ∧ ents z' = a ++ (k, v) :: c
theorem Put_old (B p b x G : Nat) (z : List Cl) (k : ByteArray) (v : Int) (w : World) (hT : Tab w B p b x G z) (hks : k.size ≤ maxLen) (hk : k ∈ (ents z).map (·.1)) :
    Calls Tryz.prog 104 #[ptr p, .string k, .int .u64 v] w fun e w' => e = .returned (.int .i64 0) ∧ Turned w w' B p b x G z k v := by
  have hc := hT.top.seed
  have HO : ∀ w, Calls Tryz.prog 92 #[.int .u64 x, .string k] w fun e w' => e = .returned (.int .u64 (hsh x k : Nat)) ∧ w' = w := fun w => Of_any x k w hks hT.seed
  have HF := fun w hT => find_any B p b x G z k w hT
  have HT : Hid (Tab w B p b x G z) := hT
  have HM : Hid (k ∈ (ents z).map (·.1)) := hk
  have hG := hT.inv.grp.le
  generalize hsh x k = h at HO HF
  clear hT hk hks
  go_enter Tryz.func104, Tryz.ntmps104
  go_wp2_with fail
  refine (HO _).mono ?_
  rintro e w ⟨rfl, rfl⟩
  go_wp2_with fail
  refine (HF _ HT.out).mono ?_
  rintro e w1 ⟨hb, hF⟩
  have HT1 : Hid (Tab w1 B p b x G z) := HT.out.keep hb
  have HB1 : Hid (Below w.heap.size w w1) := hb
  rcases hF with ⟨g, i, hg, hi, h1, h2, rfl⟩ | ⟨h1, rfl⟩
  · have hgz : (g : Int) < G := by omega
    have hiz : (i : Int) < 8 := by omega
    have hc1 := HT1.out.top.groups
    have hv1 := HT1.out.row.vl hg hi
    have hf1 := HT1.out.row.frozen (g * 17 + 1 + i * 2 + 1)
    have HR : Hid (Turned w (w1.setCell ⟨b, g * 17 + 1 + i * 2 + 1, none⟩ (.int .u64 v)) B p b x G z k v) := by
      refine ⟨(Moves.of_below HB1.out p b).trans (Moves.set (.inr rfl)) (.inl rfl), ?_⟩
      obtain ⟨hI, a, c, ha, hc⟩ := HT1.out.inv.turn hg hi h1 v
      have hne := HT1.out.top.ne HT1.out.row
      refine ⟨_, ⟨HT1.out.top.kept (Below.heap_setCell _ _ _ _ (by simpa using hne)), HT1.out.row.setVal HT1.out.inv.len hg hi v, HT1.out.low, HT1.out.lowb, hI, HT1.out.seed, ?_⟩, a, c, (cel z (8 * g + i)).2.2, ?_, ?_⟩
      · intro e he
        rw [hc] at he
        have hs := HT1.out.siz
        rw [ha] at hs
        rcases List.mem_append.1 he with he | he
        · exact hs e (List.mem_append.2 (.inl he))
        · rcases List.mem_cons.1 he with rfl | he
          · exact hs (cel z (8 * g + i)).2 (by simp)
          · exact hs e (List.mem_append.2 (.inr (List.mem_cons_of_mem _ he)))
      · rw [ha, ← h2]
      · rw [hc, h2]
    generalize (cel z (8 * g + i)).2.2 = v0 at hv1
    clear h1 h2 hb hc HO HF
    go_wp2
    go_ret
    exact ⟨rfl, HR.out⟩
  · exact absurd HM.out h1
/-- A table with one key less. -/
def Less (w w' : World) (B p b x G : Nat) (z : List Cl) (k : ByteArray) : Prop :=
  Moves w w' p b ∧ ∃ z', Tab w' B p b x G z' ∧ ∃ u, (ents z).Perm ((k, u) :: ents z')
def cutB (s : ByteArray) (n : Int) : ByteArray := if n < (s.size : Int) then s.extract 0 n.toNat else s
theorem size_cutB (s : ByteArray) (n : Int) (h : 0 ≤ n) : ((cutB s n).size : Int) ≤ n := by
  unfold cutB
  split
  · simp; omega
  · omega
theorem Cut_any (s : ByteArray) (n : Int) (w : World) (h0 : 0 ≤ n) :
    Calls Tryz.prog 14 #[.string s, .int .i64 n] w fun e w' => e = .returned (.string (cutB s n)) ∧ w' = w := by
  by_cases h : n < s.size
  · have HC : Hid (cutB s n = s.extract 0 n.toNat) := by show cutB s n = _; rw [cutB, if_pos h]
    go_enter Tryz.func14, Tryz.ntmps14
    go_wp2
    go_ret
    exact ⟨by rw [HC.out]; simp, rfl⟩
  · have HC : Hid (cutB s n = s) := by show cutB s n = _; rw [cutB, if_neg h]
    go_enter Tryz.func14, Tryz.ntmps14
    go_wp2
    go_ret
    exact ⟨by rw [HC.out]; rfl, rfl⟩
/-- How often a text is among others. -/
def cnt (ls : List ByteArray) (s : ByteArray) : Nat := (ls.filter (fun t => decide (t = s))).length
/-- A table at p, its groups at b, by the seed x, that has es. -/
def Tbl (w : World) (B p b x : Nat) (es : List En) : Prop := ∃ G z, Tab w B p b x G z ∧ (ents z).Perm es
abbrev keysOf (es : List En) : List ByteArray := es.map (·.1)
theorem Tbl.keep {w wn : World} {B p b x : Nat} {es : List En} (h : Tbl w B p b x es) (hb : Below w.heap.size w wn) : Tbl wn B p b x es := by
  obtain ⟨G, z, h1, h2⟩ := h
  exact ⟨G, z, h1.keep hb, h2⟩
theorem Tbl.nod {w : World} {B p b x : Nat} {es : List En} (h : Tbl w B p b x es) : (keysOf es).Nodup := by
  obtain ⟨G, z, h1, h2⟩ := h
  exact (h2.map (·.1)).nodup_iff.1 h1.inv.nod
theorem Tbl.le {w : World} {B p b x : Nat} {es : List En} (h : Tbl w B p b x es) : es.length ≤ 112 := by
  obtain ⟨G, z, h1, h2⟩ := h
  have := h1.inv.room
  have := h1.inv.grp.le
  have := h2.length_eq
  omega
theorem Tbl.lt {w : World} {B p b x : Nat} {es : List En} (h : Tbl w B p b x es) : p < w.heap.size ∧ b < w.heap.size ∧ B ≤ p ∧ B ≤ b := by
  obtain ⟨G, z, h1, h2⟩ := h
  exact ⟨h1.top.lt, h1.row.lt, h1.low, h1.lowb⟩
theorem Tbl.low {w : World} {B C p b x : Nat} {es : List En} (h : Tbl w B p b x es) (hC : C ≤ B) : Tbl w C p b x es := by
  obtain ⟨G, z, h1, h2⟩ := h
  exact ⟨G, z, ⟨h1.top, h1.row, Nat.le_trans hC h1.low, Nat.le_trans hC h1.lowb, h1.inv, h1.seed, h1.siz⟩, h2⟩
theorem Tbl.perm {w : World} {B p b x : Nat} {es fs : List En} (h : Tbl w B p b x es) (hp : es.Perm fs) : Tbl w B p b x fs := by
  obtain ⟨G, z, h1, h2⟩ := h
  exact ⟨G, z, h1, h2.trans hp⟩
/-- Two tables, side by side. -/
theorem Tbl.ne {w : World} {B C p b x q c y : Nat} {es fs : List En} (h : Tbl w B p b x es) (h' : Tbl w C q c y fs) : p ≠ c := by
  obtain ⟨G, z, h1, -⟩ := h
  obtain ⟨G', z', h2, -⟩ := h'
  exact h1.top.ne h2.row
theorem Tbl.moves {w w' : World} {B C p b x q c y : Nat} {es fs : List En} (h : Tbl w B p b x es) (h' : Tbl w C q c y fs) (hm : Moves w w' q c) (h1 : p ≠ q) (h2 : b ≠ c) : Tbl w' B p b x es := by
  have h3 := h.ne h'
  have h4 := (h'.ne h).symm
  obtain ⟨G, z, k1, k2⟩ := h
  exact ⟨G, z, k1.moves hm h1 h2 h3 h4, k2⟩
theorem Tbl.grown {w w2 : World} {B C p b x : Nat} {es : List En} {e : TypeId} {s : Nat} {a : Option Addr} {n cap : Nat} {cs : List Value} (h : Tbl w B p b x es) (h' : OwnR w C e s a n cap cs) (hg : w.grownBy w2 (a.map (·.block))) (h1 : e ≠ 156) (h2 : e ≠ 198) : Tbl w2 B p b x es := by
  obtain ⟨G, z, k1, k2⟩ := h
  exact ⟨G, z, k1.grown h' hg h1 h2, k2⟩
theorem OwnR.movesT {w w' : World} {B C p b x : Nat} {es : List En} {e : TypeId} {s : Nat} {a : Option Addr} {n cap : Nat} {cs : List Value} (h : OwnR w C e s a n cap cs) (hm : Moves w w' p b) (hT : Tbl w B p b x es) (h1 : e ≠ 156) (h2 : e ≠ 198) : OwnR w' C e s a n cap cs := by
  obtain ⟨G, z, k1, k2⟩ := hT
  exact h.moves hm k1 h1 h2
theorem Tbl.below {w w' : World} {B p b x : Nat} {es : List En} (h : Tbl w B p b x es) (hm : Moves w w' p b) : Below B w w' := by
  have := h.lt
  exact hm.below this.2.2.1 this.2.2.2 (by omega)
theorem NewT (x : Nat) (w : World) (hx : x < 18446744073709551616) :
    Calls Tryz.prog 55 #[.int .u64 x] w fun e w' => Below w.heap.size w w' ∧ ∃ p b, e = .returned (ptr p) ∧ Tbl w' w.heap.size p b x [] := by
  refine (New_tab x w hx).mono ?_
  rintro e w' ⟨hb, p, b, rfl, hT, -⟩
  exact ⟨hb, p, b, rfl, 1, _, hT, by rw [ents_news0]⟩
theorem PutT_new (B p b x : Nat) (es : List En) (k : ByteArray) (v : Int) (w : World) (hT : Tbl w B p b x es) (hks : k.size ≤ maxLen) (hk : k ∉ keysOf es) (hlen : es.length < 112) :
    Calls Tryz.prog 104 #[ptr p, .string k, .int .u64 v] w fun e w' => e = .returned (.int .i64 0) ∧ Moves w w' p b ∧ ∃ b', Tbl w' B p b' x (es ++ [(k, v)]) ∧ (b' = b ∨ w.heap.size ≤ b') := by
  obtain ⟨G, z, h1, h2⟩ := hT
  refine (Put_new B p b x G z k v w h1 hks (fun h => hk ((h2.map (·.1)).mem_iff.1 h)) (by rw [h2.length_eq]; exact hlen)).mono ?_
  rintro e w' ⟨rfl, hm, b', G', z', hT', hb', hp'⟩
  exact ⟨rfl, hm, b', ⟨G', z', hT', hp'.trans (List.Perm.append_right _ h2)⟩, hb'⟩
/-- Has a number that bit, and is it 1? -/
def bset (h : Nat) (bit : Int) : Bool := decide (0 ≤ bit ∧ bit < 64) && decide (h / 2 ^ bit.toNat % 2 = 1)
theorem and_one (h t : Nat) (hh : h < 18446744073709551616) : bits .and .u64 ((h : Int) / 2 ^ t) 1 = ((h / 2 ^ t % 2 : Nat) : Int) := by
  have e2 : (2 : Int) ^ t = ((2 ^ t : Nat) : Int) := by simp
  rw [e2, ← Int.natCast_ediv]
  have hq : h / 2 ^ t < 18446744073709551616 := Nat.lt_of_le_of_lt (Nat.div_le_self _ _) hh
  generalize h / 2 ^ t = q at hq
  have := u64_and_nat q 1 hq (by decide)
  rw [Nat.and_one_is_mod] at this
  exact this
theorem isSet_any (h : Nat) (bit : Int) (w : World) (hh : h < 18446744073709551616) :
    Calls Tryz.prog 193 #[.int .u64 h, .int .i64 bit] w fun e w' => e = .returned (.bool (bset h bit)) ∧ w' = w := by
  by_cases h0 : 0 ≤ bit
  · by_cases h1 : bit < 64
    · obtain ⟨t, rfl⟩ : ∃ t : Nat, bit = (t : Int) := ⟨bit.toNat, by omega⟩
      have HR : Hid (bset h t = decide (h / 2 ^ t % 2 = 1)) := by show _ = _; unfold bset; rw [decide_eq_true ⟨h0, h1⟩, Int.toNat_natCast]; rfl
      have ha := and_one h t hh
      have hlt : h / 2 ^ t % 2 < 2 := Nat.mod_lt _ (by decide)
      generalize h / 2 ^ t % 2 = m at ha HR hlt
      rcases (by omega : m = 0 ∨ m = 1) with rfl | rfl
      · replace ha : bits .and .u64 ((h : Int) / 2 ^ t) 1 = 0 := ha
        go_enter Tryz.func193, Tryz.ntmps193
        go_wp2
        go_ret
        exact ⟨by rw [HR.out]; rfl, rfl⟩
      · replace ha : bits .and .u64 ((h : Int) / 2 ^ t) 1 = 1 := ha
        go_enter Tryz.func193, Tryz.ntmps193
        go_wp2
        go_ret
        exact ⟨by rw [HR.out]; rfl, rfl⟩
    · have HR : Hid (bset h bit = false) := by show _ = _; unfold bset; rw [decide_eq_false (by omega)]; rfl
      go_enter Tryz.func193, Tryz.ntmps193
      go_wp2
      go_ret
      exact ⟨by rw [HR.out]; rfl, rfl⟩
  · have HR : Hid (bset h bit = false) := by show _ = _; unfold bset; rw [decide_eq_false (by omega)]; rfl
    go_enter Tryz.func193, Tryz.ntmps193
    go_wp2
    go_ret
    exact ⟨by rw [HR.out]; rfl, rfl⟩
/-- Two tables, side by side, that need not have the same. -/
structure Pair (w : World) (B p b x : Nat) (es : List En) (q c : Nat) (fs : List En) : Prop where
  one : Tbl w B p b x es
  two : Tbl w B q c x fs
  ne : p ≠ q
  neb : b ≠ c
theorem Pair.keep {w wn : World} {B p b x q c : Nat} {es fs : List En} (h : Pair w B p b x es q c fs) (hb : Below w.heap.size w wn) : Pair wn B p b x es q c fs := ⟨h.one.keep hb, h.two.keep hb, h.ne, h.neb⟩
theorem Pair.first {w w1 : World} {B p b b1 x q c : Nat} {es es1 fs : List En} (h : Pair w B p b x es q c fs) (hm : Moves w w1 p b) (hT : Tbl w1 B p b1 x es1) (hb : b1 = b ∨ w.heap.size ≤ b1) : Pair w1 B p b1 x es1 q c fs := by
  refine ⟨hT, h.two.moves h.one hm h.ne.symm h.neb.symm, h.ne, ?_⟩
  have := h.two.lt
  rcases hb with rfl | hb
  · exact h.neb
  · omega
theorem Pair.second {w w1 : World} {B p b x q c c1 : Nat} {es fs fs1 : List En} (h : Pair w B p b x es q c fs) (hm : Moves w w1 q c) (hT : Tbl w1 B q c1 x fs1) (hb : c1 = c ∨ w.heap.size ≤ c1) : Pair w1 B p b x es q c1 fs1 := by
  refine ⟨h.one.moves h.two hm h.ne h.neb, hT, h.ne, ?_⟩
  have := h.one.lt
  rcases hb with rfl | hb
  · exact h.neb
  · omega
/-- The keys whose hash has that bit; those whose hash has not. -/
def onesOf (x : Nat) (bit : Int) (es : List En) : List En := es.filter fun e => bset (hsh x e.1) bit
def zerosOf (x : Nat) (bit : Int) (es : List En) : List En := es.filter fun e => !bset (hsh x e.1) bit
theorem not_filter {es : List En} {k : ByteArray} (h : k ∉ keysOf es) (f : En → Bool) : k ∉ keysOf (es.filter f) := by
  intro hm
  obtain ⟨e, he, h1⟩ := List.mem_map.1 hm
  exact h (List.mem_map.2 ⟨e, (List.mem_filter.1 he).1, h1⟩)
set_option maxRecDepth 100000 in
set_option maxHeartbeats 8000000 in
theorem Split_any (B p b x G : Nat) (z : List Cl) (bit : Int) (w : World) (hT : Tab w B p b x G z) :
    Calls Tryz.prog 140 #[ptr p, .int .i64 bit] w fun e w' => Below w.heap.size w w' ∧ ∃ p0 b0 p1 b1, e = .returned (.tuple #[ptr p0, ptr p1]) ∧ Pair w' w.heap.size p0 b0 x (zerosOf x bit (ents z)) p1 b1 (onesOf x bit (ents z)) := by
  have HT : Hid (Tab w B p b x G z) := hT
  have hx := hT.seed
  have HN := fun w => NewT x w hx
  have HN2 := fun w => NewT x w hx
  have hc := hT.top.seed
  have HCM : Hid (∀ w', Below w.heap.size w w' → w'.cell? ⟨p, 0, none⟩ = some (.int .u64 (x : Nat))) := fun w' hb => (HT.out.keep hb).top.seed
  have HD : Hid (Below w.heap.size w w.drew) := below_drewN w 1
  have HFa := fun w hT => full_any B p b x G z w hT
  have HND : Hid ((keysOf (ents z)).Nodup) := hT.inv.nod
  have HSZ : Hid (∀ e ∈ ents z, e.1.size ≤ maxLen) := hT.siz
  have HLE : Hid ((ents z).length ≤ 112) := by have := hT.inv.room; have := hT.inv.grp.le; show _ ≤ _; omega
  obtain ⟨es, hes⟩ : ∃ es, ents z = es := ⟨_, rfl⟩
  rw [hes] at HFa HND HSZ HLE ⊢
  clear hT hes
  go_enter Tryz.func140, Tryz.ntmps140
  go_upto_region 1 with fail
  go_cut [6, 7] from 10 to 19 (fun v6 v7 wx => ∃ p0 b0 p1 b1, v6 = ptr p0 ∧ v7 = ptr p1 ∧ Hid (Pair wx w.heap.size p0 b0 x [] p1 b1 []) ∧ Hid (Below w.heap.size w wx))
  case first =>
    go_region_held3 (fun w' => w'.cell? ⟨p, 0, none⟩ = some (.int .u64 (x : Nat))) (exact HCM.out _ HD.out) (first
      | (go_at_call 55; refine (HN _).mono ?_; rintro e wx ⟨hb, p2, b2, rfl, hT2⟩; have HF : Hid (Tbl wx w.heap.size p2 b2 x []) := hT2.low HD.out.size; replace HD := step_below HD hb; clear hb hT2 HN)
      | (go_at_call 55; refine (HN2 _).mono ?_; rintro e wy ⟨hb, p3, b3, rfl, hT3⟩; have HPr : Hid (Tbl wy w.heap.size p2 b2 x [] ∧ Tbl wy w.heap.size p3 b3 x [] ∧ p2 ≠ p3 ∧ b2 ≠ b3) := (by have h1 := HF.out.lt; have h2 := hT3.lt; exact ⟨HF.out.keep hb, hT3.low HD.out.size, by omega, by omega⟩); replace HD := step_below HD hb; clear hb hT3))
    go_wp2
    go_meet
    exact ⟨p2, b2, p3, b3, rfl, rfl, ⟨HPr.out.1, HPr.out.2.1, HPr.out.2.2.1, HPr.out.2.2.2⟩, HD⟩
  case rest =>
  clear HN HN2 hc HD
  obtain ⟨p0, b0, p1, b1, rfl, rfl, HP, HB⟩ := hcut
  have HFu := HFa _ (HT.out.keep HB.out)
  clear HFa
  go_wp2_with fail
  refine HFu.mono ?_
  rintro e w2 ⟨hb2, ae, ne, ce, rfl, hO⟩
  have HNE : Hid (es.length = ne) := OwnE.len hO
  have hne : ne ≤ 112 := by have := HLE.out; have := HNE.out; omega
  have HO2 : Hid (OwnE w2 w.heap.size ae ne ce es) := OwnR.low hO HB.out.size
  have HB2 := step_below HB hb2
  have HP2 : Hid (Pair w2 w.heap.size p0 b0 x (zerosOf x bit (es.take 0)) p1 b1 (onesOf x bit (es.take 0))) := HP.out.keep hb2
  clear hb2 hO HFu HP HB
  go_wp2
  go_loopg [9, 23] ne (fun q sv jv wr => ∃ i b0 b1 : Nat, i + q = ne ∧ jv = .int .i64 i ∧ Hid (Pair wr w.heap.size p0 b0 x (zerosOf x bit (es.take i)) p1 b1 (onesOf x bit (es.take i))) ∧ Hid (OwnE wr w.heap.size ae ne ce es) ∧ Hid (Below w.heap.size w wr))
  case atStart => exact ⟨0, b0, b1, by omega, rfl, HP2, HO2, HB2⟩
  case round =>
    clear HP2 HO2 HB2
    obtain ⟨i, b0, b1, hi, rfl, HP, HO, HB⟩ := hrel
    by_cases h8 : (i : Int) < ne
    · obtain ⟨gE, ha, hk, hv⟩ := OwnE.cell HO.out (j := i) (by omega)
      subst ha
      have hil : i < es.length := by have := HNE.out; omega
      have HFR : Hid ((es.getD i (⟨#[]⟩, 0)).1 ∉ keysOf (es.take i)) := fresh_key HND.out hil
      have HKS : Hid ((es.getD i (⟨#[]⟩, 0)).1.size ≤ maxLen) := HSZ.out _ (by rw [List.getD_eq_getElem?_getD, List.getElem?_eq_getElem hil]; exact List.getElem_mem hil)
      have HTS : Hid (es.take (i + 1) = es.take i ++ [es.getD i (⟨#[]⟩, 0)]) := take_snoc es _ i hil
      have HTL : Hid ((es.take i).length < 112) := by show _ < _; rw [List.length_take]; omega
      generalize es.getD i (⟨#[]⟩, 0) = ev at hk hv HFR HKS HTS
      obtain ⟨k, v⟩ := ev
      simp only [] at hk hv
      obtain ⟨w4, hw4⟩ : ∃ w4, wr.alloc (.cells #[.string k, .int .u64 v] 195) = w4 := ⟨_, rfl⟩
      obtain ⟨q, hq⟩ : ∃ q, wr.heap.size = q := ⟨_, rfl⟩
      have HB4 : Hid (Below wr.heap.size wr w4) := by show Below _ _ _; rw [← hw4]; exact alloc_below wr _
      have HX4 : Hid (Box w4 q k v) := by show Box _ _ _ _; rw [← hw4, ← hq]; exact Box.made wr k v
      have HBw := step_below HB HB4.out
      have HP4 : Hid (Pair w4 w.heap.size p0 b0 x (zerosOf x bit (es.take i)) p1 b1 (onesOf x bit (es.take i))) := HP.out.keep HB4.out
      have HO4 : Hid (OwnE w4 w.heap.size (some ⟨gE, 0, none⟩) ne ce es) := OwnR.keep HO.out HB4.out
      have hc4 := HCM.out _ HBw.out
      have hk4 := HX4.out.key
      have hv4 := HX4.out.vl
      have HOf : ∀ w, Calls Tryz.prog 92 #[.int .u64 x, .string k] w fun e w' => e = .returned (.int .u64 (hsh x k : Nat)) ∧ w' = w := fun w => Of_any x k w HKS.out hx
      have HIs := fun w => isSet_any (hsh x k) bit w (hsh_lt x k)
      have HBS : Hid (∀ b, bset (hsh x k) bit = b → onesOf x bit (es.take (i + 1)) = onesOf x bit (es.take i) ++ (if b = true then [(k, v)] else []) ∧ zerosOf x bit (es.take (i + 1)) = zerosOf x bit (es.take i) ++ (if b = true then [] else [(k, v)])) := by
        intro b hb
        rw [HTS.out]
        unfold onesOf zerosOf
        rw [List.filter_append, List.filter_append]
        subst hb
        cases hbb : bset (hsh x k) bit <;> simp [hbb]
      generalize hsh x k = hv' at HOf HIs HBS
      clear HB HB4 HP HO hil HX4
      generalize hbs : bset hv' bit = bs at HIs HBS
      go_upto_region 5 with fail
      go_quiet ((first | (go_at_call 92; with_reducible exact Calls.quiet_of_same (HOf _)) | (go_at_call 193; with_reducible exact Calls.quiet_of_same (HIs _))))
      obtain ⟨w5, hw5⟩ : ∃ w5, w4.drewN nq = w5 := ⟨_, rfl⟩
      have HD5 : Hid (Below w4.heap.size w4 w5) := by show Below _ _ _; rw [← hw5]; exact below_drewN w4 nq
      rw [hw5]
      have HP5 : Hid (Pair w5 w.heap.size p0 b0 x (zerosOf x bit (es.take i)) p1 b1 (onesOf x bit (es.take i))) := HP4.out.keep HD5.out
      have HO5 : Hid (OwnE w5 w.heap.size (some ⟨gE, 0, none⟩) ne ce es) := OwnR.keep HO4.out HD5.out
      have HB5 := step_below HBw HD5.out
      have hk5 : w5.cell? ⟨q, 0, none⟩ = some (.string k) := by rw [HD5.out.cell (p := ⟨q, 0, none⟩) (World.block_lt_of_cell? _ _ hk4)]; exact hk4
      have hv5 : w5.cell? ⟨q, 1, none⟩ = some (.int .u64 v) := by rw [HD5.out.cell (p := ⟨q, 1, none⟩) (World.block_lt_of_cell? _ _ hv4)]; exact hv4
      have HLn : Hid ((onesOf x bit (es.take i)).length < 112 ∧ (zerosOf x bit (es.take i)).length < 112) := by
        have h1 := HTL.out
        have h2 : (onesOf x bit (es.take i)).length ≤ (es.take i).length := List.length_filter_le _ _
        have h3 : (zerosOf x bit (es.take i)).length ≤ (es.take i).length := List.length_filter_le _ _
        exact ⟨by omega, by omega⟩
      have HST := HBS.out bs rfl
      clear hw5 HD5 HP4 HO4 HBw hc4 hk4 hv4 HOf HIs hbs HBS HTL hw4 hq hk hv
      cases bs
      · obtain ⟨e1, e2⟩ := HST
        rw [if_neg (by decide)] at e1 e2
        rw [List.append_nil] at e1
        have HE1 : Hid (onesOf x bit (es.take (i + 1)) = onesOf x bit (es.take i)) := e1
        have HE2 : Hid (zerosOf x bit (es.take (i + 1)) = zerosOf x bit (es.take i) ++ [(k, v)]) := e2
        have hPu := PutT_new _ _ _ _ (zerosOf x bit (es.take i)) k v _ HP5.out.one HKS.out (not_filter HFR.out _) HLn.out.2
        clear e1 e2
        go_wp2_with fail
        refine hPu.mono ?_
        rintro e w6 ⟨rfl, hm6, b6, hT6, hb6⟩
        have HP6 : Hid (Pair w6 w.heap.size p0 b6 x (zerosOf x bit (es.take (i + 1))) p1 b1 (onesOf x bit (es.take (i + 1)))) := by rw [HE1.out, HE2.out]; exact HP5.out.first hm6 hT6 hb6
        have HO6 : Hid (OwnE w6 w.heap.size (some ⟨gE, 0, none⟩) ne ce es) := OwnR.movesT HO5.out hm6 HP5.out.one (by decide) (by decide)
        have HB6 : Hid (Below w.heap.size w w6) := HB5.out.trans (HP5.out.one.below hm6)
        clear hm6 hT6 hb6 hPu
        go_wp2
        go_roundg (gk - 1)
        case measure => omega
        case rel => exact ⟨i + 1, b6, b1, by omega, by go_num, HP6, HO6, HB6⟩
      · obtain ⟨e1, e2⟩ := HST
        rw [if_pos rfl] at e1 e2
        rw [List.append_nil] at e2
        have HE1 : Hid (onesOf x bit (es.take (i + 1)) = onesOf x bit (es.take i) ++ [(k, v)]) := e1
        have HE2 : Hid (zerosOf x bit (es.take (i + 1)) = zerosOf x bit (es.take i)) := e2
        have hPu := PutT_new _ _ _ _ (onesOf x bit (es.take i)) k v _ HP5.out.two HKS.out (not_filter HFR.out _) HLn.out.1
        clear e1 e2
        go_wp2_with fail
        refine hPu.mono ?_
        rintro e w6 ⟨rfl, hm6, b6, hT6, hb6⟩
        have HP6 : Hid (Pair w6 w.heap.size p0 b0 x (zerosOf x bit (es.take (i + 1))) p1 b6 (onesOf x bit (es.take (i + 1)))) := by rw [HE1.out, HE2.out]; exact HP5.out.second hm6 hT6 hb6
        have HO6 : Hid (OwnE w6 w.heap.size (some ⟨gE, 0, none⟩) ne ce es) := OwnR.movesT HO5.out hm6 HP5.out.two (by decide) (by decide)
        have HB6 : Hid (Below w.heap.size w w6) := HB5.out.trans (HP5.out.two.below hm6)
        clear hm6 hT6 hb6 hPu
        go_wp2
        go_roundg (gk - 1)
        case measure => omega
        case rel => exact ⟨i + 1, b0, b6, by omega, by go_num, HP6, HO6, HB6⟩
    · have HE : Hid (es.take i = es) := by show _ = _; rw [List.take_of_length_le (by have := HNE.out; omega)]
      rw [HE.out] at HP
      go_wp2
      go_ret2
      exact ⟨HB.out, p0, _, p1, rfl, _, HP.out⟩
end Go.Proofs.YtmjeljldmmkcpabGreat.Zs.Dk
