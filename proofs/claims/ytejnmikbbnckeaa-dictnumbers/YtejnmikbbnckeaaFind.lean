/-
  find, spare and Get.
-/
import Derived.Test.YtejnmikbbnckeaaReads
namespace Go.Proofs.Ytejnmikbbnckeaa
open Go.RowKit Go.PlainAid

theorem Seven_nat (h : Nat) (w : World) (hh : h < 18446744073709551616) : Calls Try.prog 80 #[.int .u64 h] w fun e w' => e = .returned (.int .u8 (sev h : Nat)) ∧ w' = w := by
  have := Seven_any h w (by omega) (by omega)
  rw [show (h : Int) / 144115188075855872 = (sev h : Nat) by unfold sev; omega] at this
  exact this

/-- No slot of the groups that were probed has the key. -/
def NoK (z : List Cl) (G h : Nat) (k : ByteArray) (j : Nat) : Prop := ∀ i, i < j → ∀ s, s < 8 → (cel z (8 * gAt G h i + s)).1 < 128 → (cel z (8 * gAt G h i + s)).2.1 ≠ k
/-- What find answers. -/
def Fnd (z : List Cl) (G : Nat) (k : ByteArray) (e : Ending) : Prop :=
  (∃ g i : Nat, g < G ∧ i < 8 ∧ (cel z (8 * g + i)).1 < 128 ∧ (cel z (8 * g + i)).2.1 = k ∧ e = .returned (.tuple #[.int .i64 g, .int .i64 i, .bool true])) ∨
  (k ∉ (ents z).map (·.1) ∧ e = .returned (.tuple #[.int .i64 0, .int .i64 0, .bool false]))

theorem str_beq (s t : ByteArray) : (s.toList == t.toList) = decide (s = t) := by
  rw [ByteArray.toList_eq, ByteArray.toList_eq]
  by_cases h : s = t
  · rw [decide_eq_true h, h]; simp
  · rw [decide_eq_false h, beq_eq_false_iff_ne]
    intro e
    refine h ?_
    cases s; cases t
    exact congrArg ByteArray.mk (Array.toList_inj.1 e)
theorem mem_slots {p : Nat → Bool} {k i : Nat} : i ∈ slots p k ↔ i < k ∧ p i = true := by unfold slots; rw [List.mem_filter, List.mem_range]
theorem getD_mem {l : List Nat} {i : Nat} (h : i < l.length) : l.getD i 0 ∈ l := by
  rw [List.getD_eq_getElem?_getD, List.getElem?_eq_getElem h]; exact List.getElem_mem h

set_option maxRecDepth 100000 in
set_option maxHeartbeats 4000000 in
theorem find_any (B p b x G : Nat) (z : List Cl) (k : ByteArray) (w : World) (hT : Tab w B p b x G z) :
    Calls Try.prog 65 #[ptr p, .int .u64 (hsh x k : Nat), .string k] w fun e w' => Below w.heap.size w w' ∧ Fnd z G k e := by
  have hc := hT.top.groups
  have hG := hT.inv.grp.le
  have hG0 := hT.inv.grp.pos
  have HT : Hid (Tab w B p b x G z) := hT
  have HL : Hid (z.length = 8 * G) := hT.inv.len
  have HB : Hid (Below w.heap.size w w) := Below.refl _ _
  have hh := hsh_lt x k
  have HH := fun w (hT : Top w p b x G) => home_any p b x G (hsh x k) w hT HT.out.inv.grp hh
  have HS := fun w => Seven_nat (hsh x k) w hh
  have HX := fun g (hg : g < G) w (hT : Top w p b x G) => next_any p b x G g w hT HT.out.inv.grp hg
  obtain ⟨h, eh⟩ : ∃ h, hsh x k = h := ⟨_, rfl⟩
  have HEh : Hid (hsh x k = h) := eh
  have HSV : Hid (sev h < 128) := by show _ < _; rw [← eh]; exact sev_lt x k
  rw [eh] at hh HH HS ⊢
  clear hT eh
  go_enter Try.func65, Try.ntmps65
  go_wp2_with fail
  refine (HH _ HT.out.top).mono ?_
  rintro e w ⟨rfl, rfl⟩
  go_wp2
  clear hc HH
  go_loopg [9, 11, 20] G (fun q gv iv jv wr => ∃ j : Nat, j + q = G ∧ jv = .int .i64 j ∧ gv = .int .i64 (gAt G h j : Nat) ∧ Hid (NoK z G h k j) ∧ Hid (Below w.heap.size w wr))
  case atStart => exact ⟨0, by omega, rfl, rfl, (fun i hi => absurd hi (by omega)), HB⟩
  case round =>
    clear HB
    obtain ⟨j, hj, rfl, rfl, HN, HB⟩ := hrel
    obtain ⟨ga, hga⟩ : ∃ ga, ga = gk := ⟨_, rfl⟩
    subst hga
    obtain ⟨wa, hwa⟩ : ∃ wa, wa = wr := ⟨_, rfl⟩
    subst hwa
    have HK : Hid (j + ga = G) := hj
    have HTr : Hid (Tab wa B p b x G z) := HT.out.keep HB.out
    by_cases h8 : (j : Int) < G
    · have hgG : gAt G h j < G := gAt_lt hG0 h j
      have HXg := HX _ hgG
      rw [gAt_next] at HXg
      have hc := HTr.out.top.groups
      have hw := HTr.out.row.word hgG
      have HM := fun w => Match_any (HT.out.inv.ok hgG) (sev h) (by have := HSV.out; omega) w
      have HE := fun w => HasEmpty_any (HT.out.inv.ok hgG) w
      have hsv : sev h < 128 := HSV.out
      obtain ⟨g, eg⟩ : ∃ g, gAt G h j = g := ⟨_, rfl⟩
      have HEG : Hid (gAt G h j = g) := eg
      rw [eg] at hgG HXg hw HM HE ⊢
      have hgz : (g : Int) < G := by omega
      obtain ⟨wv, ewv⟩ : ∃ wv, val (wrd z g) = wv := ⟨_, rfl⟩
      rw [ewv] at hw HM HE
      obtain ⟨sv, esv⟩ : ∃ sv, sev h = sv := ⟨_, rfl⟩
      have HES : Hid (sev h = sv) := esv
      rw [esv] at HM HS hsv
      have HD : Hid (Below wa.heap.size wa wa.drew) := below_drewN wa 1
      have HCL : Hid (∀ w', Below wa.heap.size wa w' → w'.cell? ⟨p, 1, none⟩ = some (.slice (some ⟨b, 0, none⟩) G G) ∧ w'.cell? ⟨b, g * 17, none⟩ = some (.int .u64 (wv : Nat))) := by
        intro w' hb
        refine ⟨(HTr.out.keep hb).top.groups, ?_⟩
        rw [← ewv]
        exact (HTr.out.keep hb).row.word hgG
      have HLS : Hid (∀ s, s < 8 → (cel z (8 * g + s)).1 < 128 → (cel z (8 * g + s)).2.1 = k → s ∈ slots (has (wrd z g) sv) 8) := by
        intro s hs h1 h2
        refine mem_slots.2 ⟨hs, decide_eq_true ?_⟩
        rw [wrd_get HL.out hgG hs, HT.out.inv.sev (8 * g + s) (by omega) h1, h2, HEh.out, esv]
      have HLF : Hid (∀ s, s ∈ slots (has (wrd z g) sv) 8 → s < 8 ∧ (cel z (8 * g + s)).1 < 128) := by
        intro s hs
        obtain ⟨h1, h2⟩ := mem_slots.1 hs
        have := of_decide_eq_true h2
        rw [wrd_get HL.out hgG h1] at this
        exact ⟨h1, by omega⟩
      have HML : Hid ((slots (has (wrd z g) sv) 8).length ≤ 8) := slots_len _ _
      have HEE : Hid (hasE z g = some? (has (wrd z g) 128) 8) := rfl
      generalize some? (has (wrd z g) 128) 8 = em at HE HEE
      generalize slots (has (wrd z g) sv) 8 = ms at HM HLS HLF HML
      clear hj eg ewv esv HX
      go_upto_region 4 with fail
      go_region_held3 (fun w' => w'.cell? ⟨p, 1, none⟩ = some (.slice (some ⟨b, 0, none⟩) G G) ∧ w'.cell? ⟨b, g * 17, none⟩ = some (.int .u64 (wv : Nat))) (exact HCL.out _ HD.out) (first
        | (go_at_call 80; refine (HS _).mono ?_; rintro e wx ⟨rfl, rfl⟩)
        | (go_at_call 79; refine (HM _).mono ?_; rintro e wx ⟨hb, am, nm, cm, rfl, hO⟩; replace HD := step_below HD hb))
      clear HM HS hw hc hb
      have HO : Hid (OwnI wx _ am nm cm ms) := hO
      have HNM : Hid (ms.length = nm) := hO.len
      have hnm : nm ≤ 8 := by have := HML.out; have := HNM.out; omega
      clear hO
      go_wp2
      go_loopg [11, 34] nm (fun q iv tv wr => wx = wr ∧ ∃ t : Nat, t + q = nm ∧ tv = .int .i64 t ∧ Hid (∀ s, s ∈ ms.take t → (cel z (8 * g + s)).2.1 ≠ k))
      case atStart => exact ⟨rfl, 0, by omega, rfl, fun s hs => absurd hs (by simp)⟩
      case round =>
        obtain ⟨rfl, t, ht, rfl, HNO⟩ := hrel
        have HTx : Hid (Tab wx B p b x G z) := HTr.out.keep HD.out
        have hc := HTx.out.top.groups
        by_cases h9 : (t : Int) < nm
        · obtain ⟨bm, om, ea, hcm⟩ := HO.out.rd.cell t (by omega)
          subst ea
          have hmem : ms.getD t 0 ∈ ms := getD_mem (by have := HNM.out; omega)
          have HSN : Hid (ms.take (t + 1) = ms.take t ++ [ms.getD t 0]) := take_snoc ms 0 t (by have := HNM.out; omega)
          obtain ⟨hs8, hsf⟩ := HLF.out _ hmem
          have hk := HTx.out.row.key hgG hs8
          generalize ms.getD t 0 = s at hcm HSN hs8 hsf hk
          have HSF : Hid ((cel z (8 * g + s)).1 < 128) := hsf
          have hsz : (s : Int) < 8 := by omega
          obtain ⟨kk, hkk⟩ : ∃ kk, (cel z (8 * g + s)).2.1 = kk := ⟨_, rfl⟩
          have HKK : Hid ((cel z (8 * g + s)).2.1 = kk) := hkk
          rw [hkk] at hk
          clear hkk hmem hsf
          by_cases hek : kk = k
          · subst hek
            go_wp2
            go_ret3
            exact ⟨HB.out.trans (HD.out.mono HB.out.size), .inl ⟨g, s, hgG, hs8, HSF.out, HKK.out, rfl⟩⟩
          · have hkb : (kk.toList == k.toList) = false := by rw [str_beq]; exact decide_eq_false hek
            go_wp2
            go_roundg (gk - 1)
            case measure => omega
            case rel =>
              refine ⟨rfl, t + 1, by omega, by go_num, ?_⟩
              intro s' hs'
              rw [HSN.out] at hs'
              rcases List.mem_append.1 hs' with hs' | hs'
              · exact HNO.out s' hs'
              · rw [List.mem_singleton.1 hs', HKK.out]; exact hek
        · have HNO' : Hid (NoK z G h k (j + 1)) := by
            intro i hi s hs h1 h2
            by_cases hij : i = j
            · subst hij
              rw [HEG.out] at h1 h2
              have := HLS.out s hs h1 h2
              exact HNO.out s (by rw [List.take_of_length_le (by have := HNM.out; omega)]; exact this) h2
            · exact HN.out i (by omega) s hs h1 h2
          have hw := (HCL.out _ HD.out).2
          have HBx : Hid (Below w.heap.size w wx) := HB.out.trans (HD.out.mono HB.out.size)
          cases em with
          | true =>
            have HST : Hid (k ∉ (ents z).map (·.1)) := by
              refine HT.out.inv.stop (j := j) ?_ (.inl ?_)
              · rw [HEh.out]; exact fun i hi => HNO'.out i (by omega)
              · rw [HEh.out, HEG.out]; exact HEE.out
            clear HNO
            go_wp2_with fail
            refine (HE _).mono ?_
            rintro e wx ⟨rfl, rfl⟩
            go_wp2
            go_ret3
            exact ⟨HBx.out, .inr ⟨HST.out, rfl⟩⟩
          | false =>
            clear HNO
            go_wp2_with fail
            refine (HE _).mono ?_
            rintro e wx ⟨rfl, rfl⟩
            go_wp2_with fail
            refine (HXg _ HTx.out.top).mono ?_
            rintro e wx ⟨rfl, rfl⟩
            go_wp2
            go_roundg (ga - 1)
            case measure => have := HK.out; omega
            case rel => exact ⟨j + 1, by have := HK.out; omega, by go_num, rfl, HNO', HBx⟩
    · have HST : Hid (k ∉ (ents z).map (·.1)) := by
        refine HT.out.inv.stop (j := G - 1) ?_ (.inr (by omega))
        rw [HEh.out]
        exact fun i hi => HN.out i (by omega)
      go_wp2
      go_ret3
      exact ⟨HB.out, .inr ⟨HST.out, rfl⟩⟩

/-- Where a new key is laid: the first slot that is free on the way of its hash. -/
def Spr (z : List Cl) (G h : Nat) (g i : Nat) : Prop := ∃ j, j < G ∧ gAt G h j = g ∧ i < 8 ∧ 128 ≤ (cel z (8 * g + i)).1 ∧ (∀ s, s < i → (cel z (8 * g + s)).1 < 128) ∧ ∀ j', j' < j → ∀ s, s < 8 → (cel z (8 * gAt G h j' + s)).1 < 128
theorem Spr.one {z : List Cl} {G h g i g' i' : Nat} (h1 : Spr z G h g i) (h2 : Spr z G h g' i') : g = g' ∧ i = i' := by
  obtain ⟨j, a1, a2, a3, a4, a5, a6⟩ := h1
  obtain ⟨j', b1, b2, b3, b4, b5, b6⟩ := h2
  have e : j = j' := by
    rcases Nat.lt_trichotomy j j' with h | h | h
    · have := b6 j h i a3
      rw [a2] at this
      omega
    · exact h
    · have := a6 j' h i' b3
      rw [b2] at this
      omega
  subst e
  rw [a2] at b2
  subst b2
  refine ⟨rfl, ?_⟩
  rcases Nat.lt_trichotomy i i' with h | h | h
  · have := b5 i h; omega
  · exact h
  · have := a5 i' h; omega
theorem slots_first {p : Nat → Bool} {k s : Nat} (h : 0 < (slots p k).length) (hs : s < (slots p k).getD 0 0) (hk : s < k) : p s = false := by
  apply Bool.eq_false_iff.2
  intro hp
  have hm : s ∈ slots p k := mem_slots.2 ⟨hk, hp⟩
  have hw : (slots p k).Pairwise (· < ·) := List.Pairwise.filter _ List.pairwise_lt_range
  generalize slots p k = l at h hs hm hw
  cases l with
  | nil => simp at h
  | cons a l =>
    rw [List.getD_cons_zero] at hs
    rcases List.mem_cons.1 hm with rfl | hm
    · omega
    · have := (List.pairwise_cons.1 hw).1 s hm
      omega

set_option maxRecDepth 100000 in
set_option maxHeartbeats 4000000 in
theorem spare_any (B p b x G h : Nat) (z : List Cl) (w : World) (hT : Tab w B p b x G z) (hh : h < 18446744073709551616) :
    Calls Try.prog 84 #[ptr p, .int .u64 h] w fun e w' => Below w.heap.size w w' ∧ ∃ g i : Nat, e = .returned (.tuple #[.int .i64 g, .int .i64 i]) ∧ Spr z G h g i := by
  have hc := hT.top.groups
  have hG := hT.inv.grp.le
  have hG0 := hT.inv.grp.pos
  have HT : Hid (Tab w B p b x G z) := hT
  have HL : Hid (z.length = 8 * G) := hT.inv.len
  have HB : Hid (Below w.heap.size w w) := Below.refl _ _
  have HH := fun w (hT : Top w p b x G) => home_any p b x G h w hT HT.out.inv.grp hh
  have HX := fun g (hg : g < G) w (hT : Top w p b x G) => next_any p b x G g w hT HT.out.inv.grp hg
  have HFr := fun g (hg : g < G) w => Free_any (HT.out.inv.ok hg) w
  obtain ⟨jE, hjE, HJE⟩ : ∃ jE, jE < G ∧ Hid (∃ s, s < 8 ∧ 128 ≤ (cel z (8 * gAt G h jE + s)).1) := by
    obtain ⟨q, hq, h1⟩ := hT.inv.empty
    obtain ⟨j, hj, h2⟩ := gAt_all (G := G) h (g := q / 8) (by omega)
    refine ⟨j, hj, q % 8, Nat.mod_lt _ (by decide), ?_⟩
    rw [h2, show 8 * (q / 8) + q % 8 = q by omega]
    omega
  have HMS : Hid (∀ g, g < G → ∀ s, s ∈ slots (fre (wrd z g)) 8 ↔ s < 8 ∧ 128 ≤ (cel z (8 * g + s)).1) := by
    intro g hg s
    rw [mem_slots]
    constructor
    · rintro ⟨h1, h2⟩
      have := of_decide_eq_true h2
      rw [wrd_get HL.out hg h1] at this
      exact ⟨h1, this⟩
    · rintro ⟨h1, h2⟩
      exact ⟨h1, decide_eq_true (by rw [wrd_get HL.out hg h1]; exact h2)⟩
  clear hT
  have hgG0 := gAt_lt hG0 h 0
  have hgz0 : ((gAt G h 0 : Nat) : Int) < G := by omega
  have hw0 := HT.out.row.word hgG0
  have HF0 := HFr _ hgG0
  go_enter Try.func84, Try.ntmps84
  go_wp2_with fail
  refine (HH _ HT.out.top).mono ?_
  rintro e w ⟨rfl, rfl⟩
  generalize hg0 : gAt G h 0 = g0 at hgG0 hgz0 hw0 HF0
  have HG0 : Hid (gAt G h 0 = g0) := hg0
  clear hg0
  generalize val (wrd z g0) = wv at hw0 HF0
  go_wp2_with fail
  refine (HF0 _).mono ?_
  rintro e w1 ⟨hb, a0, n0, c0, rfl, hO⟩
  have HB1 := step_below HB hb
  have HO1 : Hid (OwnI w1 0 a0 n0 c0 (slots (fre (wrd z g0)) 8)) := by
    refine ⟨hO.1, ?_⟩
    rcases hO.2 with h2 | ⟨g, c, cur, h1, h3, h4⟩
    · exact .inl h2
    · exact .inr ⟨g, c, cur, h1, Nat.zero_le _, h4⟩
  clear hb hO hw0 HF0 hc HH HB
  go_wp2
  go_loopg [6, 7] jE (fun q gv fv wr => ∃ (j g : Nat) (a : Option Addr) (n c : Nat), j + q = jE ∧ gv = .int .i64 g ∧ fv = .slice a n c ∧ Hid (gAt G h j = g) ∧ Hid (OwnI wr 0 a n c (slots (fre (wrd z g)) 8)) ∧ Hid (∀ j', j' < j → ∀ s, s < 8 → (cel z (8 * gAt G h j' + s)).1 < 128) ∧ Hid (Below w.heap.size w wr))
  case atStart => exact ⟨0, g0, a0, n0, c0, by omega, rfl, rfl, HG0, HO1, (fun j' hj' => absurd hj' (by omega)), HB1⟩
  case round =>
    clear HO1 HB1 hgG0 hgz0
    obtain ⟨j, g, a, n, c, hj, rfl, rfl, HEG, HO, HNO, HB⟩ := hrel
    have hgG : g < G := by rw [← HEG.out]; exact gAt_lt hG0 h j
    have HTr : Hid (Tab wr B p b x G z) := HT.out.keep HB.out
    have HLN : Hid ((slots (fre (wrd z g)) 8).length = n) := HO.out.len
    have hn8 : n ≤ 8 := by have := slots_len (fre (wrd z g)) 8; have := HLN.out; omega
    by_cases h0 : n = 0
    · subst h0
      have HNF : Hid (∀ s, s < 8 → (cel z (8 * g + s)).1 < 128) := by
        intro s hs
        apply Classical.byContradiction
        intro hn
        have := (HMS.out g hgG s).2 ⟨hs, by omega⟩
        rw [List.length_eq_zero_iff.1 HLN.out] at this
        simp at this
      have hjj : j < jE := by
        apply Classical.byContradiction
        intro hn
        have e : j = jE := by omega
        subst e
        obtain ⟨s, hs, h1⟩ := HJE.out
        rw [HEG.out] at h1
        have := HNF.out s hs
        omega
      have HXg := HX g hgG
      have hgE : (g + 1) % G = gAt G h (j + 1) := by rw [← HEG.out]; exact gAt_next h j
      rw [hgE] at HXg
      have hg1 := gAt_lt hG0 h (j + 1)
      have HF1 := HFr _ hg1
      have hw1 := HTr.out.row.word hg1
      have hc := HTr.out.top.groups
      generalize hg1e : gAt G h (j + 1) = g1 at hg1 HF1 hw1 HXg
      have HG1 : Hid (gAt G h (j + 1) = g1) := hg1e
      have hg1z : (g1 : Int) < G := by omega
      generalize val (wrd z g1) = wv1 at hw1 HF1
      clear hg1e hgE
      go_wp2_with fail
      refine (HXg _ HTr.out.top).mono ?_
      rintro e wr ⟨rfl, rfl⟩
      go_wp2_with fail
      refine (HF1 _).mono ?_
      rintro e w2 ⟨hb, a2, n2, c2, rfl, hO⟩
      have HB2 := step_below HB hb
      have HO2 : Hid (OwnI w2 0 a2 n2 c2 (slots (fre (wrd z g1)) 8)) := by
        refine ⟨hO.1, ?_⟩
        rcases hO.2 with h2 | ⟨g, c, cur, h1, h3, h4⟩
        · exact .inl h2
        · exact .inr ⟨g, c, cur, h1, Nat.zero_le _, h4⟩
      have HNO2 : Hid (∀ j', j' < j + 1 → ∀ s, s < 8 → (cel z (8 * gAt G h j' + s)).1 < 128) := by
        intro j' hj' s hs
        by_cases e : j' = j
        · subst e; rw [HEG.out]; exact HNF.out s hs
        · exact HNO.out j' (by omega) s hs
      clear hb hO
      go_wp2
      go_roundg (gk - 1)
      case measure => omega
      case rel => exact ⟨j + 1, g1, _, _, _, by omega, rfl, rfl, HG1, HO2, HNO2, HB2⟩
    · obtain ⟨bm, om, ea, hcm⟩ := HO.out.rd.cell 0 (by omega)
      subst ea
      have hmem : (slots (fre (wrd z g)) 8).getD 0 0 ∈ slots (fre (wrd z g)) 8 := getD_mem (by have := HLN.out; omega)
      obtain ⟨hs8, hsf⟩ := (HMS.out g hgG _).1 hmem
      have HFI : Hid (∀ s, s < (slots (fre (wrd z g)) 8).getD 0 0 → (cel z (8 * g + s)).1 < 128) := by
        intro s hs
        have h1 := slots_first (by have := HLN.out; omega) hs (by omega)
        have h2 := of_decide_eq_false h1
        rw [wrd_get HL.out hgG (by omega)] at h2
        omega
      generalize (slots (fre (wrd z g)) 8).getD 0 0 = s at hcm hs8 hsf HFI
      have HSF : Hid (128 ≤ (cel z (8 * g + s)).1) := hsf
      have hnz : ((n : Int) == 0) = false := by simp; omega
      have hnp : (0 : Int) < n := by omega
      have hnp' : 0 < n := by omega
      rw [Nat.add_zero] at hcm
      have HBQ : Hid (∀ q, Below w.heap.size w (wr.drewN q)) := fun q => HB.out.trans ((below_drewN wr q).mono HB.out.size)
      clear hmem hsf HX HFr
      go_wp2
      go_quiet (fail)
      go_wp2
      go_ret2
      exact ⟨HBQ.out _, g, s, rfl, j, by omega, HEG.out, hs8, HSF.out, HFI.out, HNO.out⟩

theorem Get_some (B p b x G : Nat) (z : List Cl) (k : ByteArray) (v : Int) (w : World) (hT : Tab w B p b x G z) (hk : k.size ≤ maxLen) (hm : (k, v) ∈ ents z) :
    Calls Try.prog 63 #[ptr p, .string k] w fun e w' => e = .returned (.tuple #[.int .i64 v, .bool true]) ∧ Below w.heap.size w w' := by
  have hc := hT.top.seed
  have HO := fun w => Of_any x k w hk hT.seed
  have HF := fun w hT => find_any B p b x G z k w hT
  have HT : Hid (Tab w B p b x G z) := hT
  have HM : Hid ((k, v) ∈ ents z) := hm
  change ∀ w, Calls Try.prog 38 #[.int .u64 x, .string k] w fun e w' => e = .returned (.int .u64 (hsh x k : Nat)) ∧ w' = w at HO
  generalize hsh x k = h at HO HF
  clear hT hm hk
  go_enter Try.func63, Try.ntmps63
  go_wp2_with fail
  refine (HO _).mono ?_
  rintro e w ⟨rfl, rfl⟩
  go_wp2_with fail
  refine (HF _ HT.out).mono ?_
  rintro e w1 ⟨hb, hF⟩
  have HT1 : Hid (Tab w1 B p b x G z) := HT.out.keep hb
  have HB1 : Hid (Below w.heap.size w w1) := hb
  rcases hF with ⟨g, i, hg, hi, h1, h2, rfl⟩ | ⟨h1, rfl⟩
  · have hv := HT1.out.row.vl hg hi
    have hc2 := HT1.out.top.groups
    have e : (cel z (8 * g + i)).2.2 = v := by
      refine HT1.out.inv.val (k := k) (mem_ents.2 ⟨8 * g + i, by rw [HT1.out.inv.len]; omega, h1, ?_⟩) HM.out
      rw [← h2]
    rw [e] at hv
    clear h1 h2 e hb hc
    go_wp2
    go_ret2
    exact ⟨rfl, HB1.out⟩
  · exact absurd (List.mem_map.2 ⟨_, HM.out, rfl⟩) h1
theorem Get_none (B p b x G : Nat) (z : List Cl) (k : ByteArray) (w : World) (hT : Tab w B p b x G z) (hk : k.size ≤ maxLen) (hm : k ∉ (ents z).map (·.1)) :
    Calls Try.prog 63 #[ptr p, .string k] w fun e w' => e = .returned (.tuple #[.int .i64 0, .bool false]) ∧ Below w.heap.size w w' := by
  have hc := hT.top.seed
  have HO := fun w => Of_any x k w hk hT.seed
  have HF := fun w hT => find_any B p b x G z k w hT
  have HT : Hid (Tab w B p b x G z) := hT
  have HM : Hid (k ∉ (ents z).map (·.1)) := hm
  change ∀ w, Calls Try.prog 38 #[.int .u64 x, .string k] w fun e w' => e = .returned (.int .u64 (hsh x k : Nat)) ∧ w' = w at HO
  generalize hsh x k = h at HO HF
  clear hT hm hk
  go_enter Try.func63, Try.ntmps63
  go_wp2_with fail
  refine (HO _).mono ?_
  rintro e w ⟨rfl, rfl⟩
  go_wp2_with fail
  refine (HF _ HT.out).mono ?_
  rintro e w1 ⟨hb, hF⟩
  have HB1 : Hid (Below w.heap.size w w1) := hb
  rcases hF with ⟨g, i, hg, hi, h1, h2, rfl⟩ | ⟨h1, rfl⟩
  · refine absurd (List.mem_map.2 ⟨_, mem_ents.2 ⟨8 * g + i, by rw [HT.out.inv.len]; omega, h1, rfl⟩, h2⟩) HM.out
  · clear h1 hb hc
    go_wp2
    go_ret2
    exact ⟨rfl, HB1.out⟩
end Go.Proofs.Ytejnmikbbnckeaa
