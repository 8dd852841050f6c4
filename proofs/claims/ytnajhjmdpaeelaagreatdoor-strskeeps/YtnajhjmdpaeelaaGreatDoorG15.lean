/- Texts that the others stand on. -/
import Derived.Test.YtnajhjmdpaeelaaGreatDoorG14
namespace Go.Proofs.YtnajhjmdpaeelaaGreatDoor.Zs.Dk
open Go.RowKit Go.PlainAid
theorem range_count {α : Type} (p : α → Bool) (d : α) (l : List α) : ((List.range l.length).filter (fun i => p (l.getD i d))).length = (l.filter p).length := by
  induction l with
  | nil => rfl
  | cons a l ih =>
    rw [List.length_cons, List.range_succ_eq_map, List.filter_cons, List.filter_map, List.filter_cons]
    have e : (fun i => p ((a :: l).getD i d)) ∘ Nat.succ = fun i => p (l.getD i d) := rfl
    rw [e, List.getD_cons_zero]
    split
    · rw [List.length_cons, List.length_cons, List.length_map, ih]
    · rw [List.length_map, ih]
/-- The slots of a group. -/
def grp (z : List Cl) (g : Nat) : List Cl := (z.drop (8 * g)).take 8
theorem take_grp (z : List Cl) (g : Nat) : z.take (8 * (g + 1)) = z.take (8 * g) ++ grp z g := by
  rw [show 8 * (g + 1) = 8 * g + 8 by omega, List.take_add]; rfl
theorem slots_count {z : List Cl} {G g : Nat} (hz : z.length = 8 * G) (hg : g < G) (p : Nat → Bool) : (slots (fun i => p ((wrd z g).getD i 0)) 8).length = ((grp z g).filter (fun c => p c.1)).length := by
  have hl : (grp z g).length = 8 := by unfold grp; rw [List.length_take, List.length_drop]; omega
  rw [← range_count (fun c : Cl => p c.1) noC (grp z g), hl]
  unfold slots
  congr 1
  refine List.filter_congr fun i hi => ?_
  rw [List.mem_range] at hi
  rw [wrd_get hz hg hi, cel, List.getD_eq_getElem?_getD, List.getD_eq_getElem?_getD, grp, List.getElem?_take, if_pos hi, List.getElem?_drop]
theorem count_full {z : List Cl} {G g : Nat} (hz : z.length = 8 * G) (hg : g < G) : (slots (ful (wrd z g)) 8).length = (ents (grp z g)).length := by
  have := slots_count hz hg (fun b => !decide (128 ≤ b))
  unfold ents
  rw [List.length_map]
  refine Eq.trans this (congrArg List.length (List.filter_congr fun c _ => ?_))
  unfold full
  by_cases h : c.1 < 128
  · rw [decide_eq_true h, decide_eq_false (by omega)]; rfl
  · rw [decide_eq_false h, decide_eq_true (by omega)]; rfl
theorem count_gone {z : List Cl} {G g : Nat} (hz : z.length = 8 * G) (hg : g < G) : (slots (has (wrd z g) 254) 8).length = dels (grp z g) := slots_count hz hg (fun b => decide (b = 254))
theorem len_take {z : List Cl} {G g : Nat} (hz : z.length = 8 * G) (hg : g < G) : (ents (z.take (8 * (g + 1)))).length = (ents (z.take (8 * g))).length + (slots (ful (wrd z g)) 8).length := by
  rw [take_grp, ents_append, List.length_append, count_full hz hg]
theorem dels_take {z : List Cl} {G g : Nat} (hz : z.length = 8 * G) (hg : g < G) : dels (z.take (8 * (g + 1))) = dels (z.take (8 * g)) + (slots (has (wrd z g) 254) 8).length := by
  rw [take_grp, dels_append, count_gone hz hg]
theorem dels_le (z : List Cl) : dels z ≤ z.length := List.length_filter_le _ _
theorem Len_any (B p b x G : Nat) (z : List Cl) (w : World) (hT : Tab w B p b x G z) : Calls Tryz.prog 182 #[ptr p] w fun e w' => e = .returned (.int .i64 ((ents z).length : Nat)) ∧ w' = w := by
  have hc := hT.top.groups
  have hG := hT.inv.grp.le
  have HT : Hid (Tab w B p b x G z) := hT
  have HL : Hid (z.length = 8 * G) := hT.inv.len
  clear hT
  go_enter Tryz.func182, Tryz.ntmps182
  go_wp2
  go_loopg [3, 4, 10] G (fun q nv iv jv wr => w = wr ∧ ∃ g : Nat, g + q = G ∧ jv = .int .i64 g ∧ nv = .int .i64 ((ents (z.take (8 * g))).length : Nat))
  case atStart => exact ⟨rfl, 0, by omega, rfl, rfl⟩
  case round =>
    obtain ⟨rfl, g, hg, rfl, rfl⟩ := hrel
    by_cases h8 : (g : Int) < G
    · have hgG : g < G := by omega
      have hw := HT.out.row.word hgG
      have HC := fun w => Count_any (HT.out.inv.ok hgG) w
      have HN : Hid ((ents (z.take (8 * (g + 1)))).length = (ents (z.take (8 * g))).length + (slots (ful (wrd z g)) 8).length) := len_take HL.out hgG
      have hl1 := slots_len (ful (wrd z g)) 8
      have hl2 : (ents (z.take (8 * g))).length ≤ 128 := by
        have := ents_len_le (z.take (8 * g))
        rw [List.length_take] at this
        have := HL.out
        omega
      generalize (ents (z.take (8 * g))).length = n at HN hl2 ⊢
      generalize (slots (ful (wrd z g)) 8).length = m at HN hl1 HC
      generalize val (wrd z g) = wv at hw HC
      go_wp2_with fail
      refine (HC _).mono ?_
      rintro e w ⟨rfl, rfl⟩
      go_wp2
      go_roundg (gk - 1)
      case measure => omega
      case rel => exact ⟨rfl, g + 1, by omega, by go_num, by rw [HN.out]; go_num⟩
    · have HE : Hid (z.take (8 * g) = z) := by show _ = _; rw [List.take_of_length_le (by have := HL.out; omega)]
      rw [HE.out]
      go_wp2
      go_ret
      exact ⟨rfl, rfl⟩
theorem Marks_any (B p b x G : Nat) (z : List Cl) (w : World) (hT : Tab w B p b x G z) : Calls Tryz.prog 209 #[ptr p] w fun e w' => e = .returned (.int .i64 (dels z : Nat)) ∧ Below w.heap.size w w' := by
  have hc := hT.top.groups
  have hG := hT.inv.grp.le
  have HT : Hid (Tab w B p b x G z) := hT
  have HL : Hid (z.length = 8 * G) := hT.inv.len
  have HB : Hid (Below w.heap.size w w) := Below.refl _ _
  clear hT
  go_enter Tryz.func209, Tryz.ntmps209
  go_wp2
  clear hc
  go_loopg [3, 4, 10] G (fun q nv iv jv wr => ∃ g : Nat, g + q = G ∧ jv = .int .i64 g ∧ nv = .int .i64 (dels (z.take (8 * g)) : Nat) ∧ Hid (Below w.heap.size w wr))
  case atStart => exact ⟨0, by omega, rfl, rfl, HB⟩
  case round =>
    clear HB
    obtain ⟨g, hg, rfl, rfl, HB⟩ := hrel
    have HTr : Hid (Tab wr B p b x G z) := HT.out.keep HB.out
    by_cases h8 : (g : Int) < G
    · have hgG : g < G := by omega
      have hc := HTr.out.top.groups
      have hw := HTr.out.row.word hgG
      have HC := fun w => Match_any (HT.out.inv.ok hgG) 254 (by decide) w
      have HN : Hid (dels (z.take (8 * (g + 1))) = dels (z.take (8 * g)) + (slots (has (wrd z g) 254) 8).length) := dels_take HL.out hgG
      have hl1 := slots_len (has (wrd z g) 254) 8
      have hl2 : dels (z.take (8 * g)) ≤ 128 := by
        have := dels_le (z.take (8 * g))
        rw [List.length_take] at this
        have := HL.out
        omega
      generalize dels (z.take (8 * g)) = n at HN hl2 ⊢
      generalize slots (has (wrd z g) 254) 8 = ms at HN hl1 HC
      generalize val (wrd z g) = wv at hw HC
      go_wp2_with fail
      refine (HC _).mono ?_
      rintro e w1 ⟨hb, a1, n1, c1, rfl, hO⟩
      have H1 := step_below HB hb
      have hn1 : ms.length = n1 := hO.len
      have HN1 : Hid (ms.length = n1) := hn1
      rw [hn1] at hl1
      clear hb hO hn1
      go_wp2
      go_roundg (gk - 1)
      case measure => omega
      case rel => exact ⟨g + 1, by omega, by go_num, by rw [HN.out, HN1.out]; go_num, H1⟩
    · have HE : Hid (z.take (8 * g) = z) := by show _ = _; rw [List.take_of_length_le (by have := HL.out; omega)]
      rw [HE.out]
      go_wp2
      go_ret
      exact ⟨rfl, HB.out⟩
set_option maxRecDepth 100000 in
set_option maxHeartbeats 4000000 in
theorem full_any (B p b x G : Nat) (z : List Cl) (w : World) (hT : Tab w B p b x G z) : Calls Tryz.prog 212 #[ptr p] w fun e w' => Below w.heap.size w w' ∧ ∃ a n c, e = .returned (.slice a n c) ∧ OwnE w' w.heap.size a n c (ents z) := by
  have hc := hT.top.groups
  have hG := hT.inv.grp.le
  have HT : Hid (Tab w B p b x G z) := hT
  have HL : Hid (z.length = 8 * G) := hT.inv.len
  have HB : Hid (Below w.heap.size w w) := Below.refl _ _
  have HO : Hid (OwnE w w.heap.size none 0 0 (ents (z.take (8 * 0)))) := OwnR.nil _ _ _ _
  clear hT
  go_enter Tryz.func212, Tryz.ntmps212
  go_wp2
  clear hc
  go_loopg [3, 4, 5, 11, 14] G (fun q sv iv ev jv kv wr => ∃ (g : Nat) (a : Option Addr) (n c : Nat), g + q = G ∧ jv = .int .i64 g ∧ sv = .slice a n c ∧ Hid (OwnE wr w.heap.size a n c (ents (z.take (8 * g)))) ∧ Hid (Below w.heap.size w wr))
  case atStart => exact ⟨0, none, 0, 0, by omega, rfl, rfl, HO, HB⟩
  case round =>
    clear HB HO
    obtain ⟨g, a, n, c, hg, rfl, rfl, HO, HB⟩ := hrel
    obtain ⟨ga, hga⟩ : ∃ ga, ga = gk := ⟨_, rfl⟩
    subst hga
    obtain ⟨wa, hwa⟩ : ∃ wa, wa = wr := ⟨_, rfl⟩
    subst hwa
    have HK : Hid (g + ga = G) := hg
    by_cases h8 : (g : Int) < G
    · have hgG : g < G := by omega
      clear hg
      go_wp2
      go_loopg [3, 5, 14] 8 (fun q sv iv jv wr => ∃ (i : Nat) (a : Option Addr) (n c : Nat), i + q = 8 ∧ jv = .int .i64 i ∧ sv = .slice a n c ∧ Hid (OwnE wr w.heap.size a n c (ents (z.take (8 * g + i)))) ∧ Hid (Below w.heap.size w wr))
      case atStart => exact ⟨0, a, n, c, by omega, rfl, rfl, HO, HB⟩
      case round =>
        clear HB HO
        obtain ⟨i, a, n, c, hi, rfl, rfl, HO, HB⟩ := hrel
        have HTr : Hid (Tab wr B p b x G z) := HT.out.keep HB.out
        by_cases hi8 : (i : Int) < 8
        · have hi8' : i < 8 := by omega
          have hc := HTr.out.top.groups
          have hw := HTr.out.row.word hgG
          have hk := HTr.out.row.key hgG hi8'
          have hv := HTr.out.row.vl hgG hi8'
          have HA := fun w => At_in (HT.out.inv.ok hgG) i hi8' w
          rw [wrd_get HL.out hgG hi8'] at HA
          have hq : 8 * g + i < z.length := by have := HL.out; omega
          have HS : Hid (z.take (8 * g + (i + 1)) = z.take (8 * g + i) ++ [cel z (8 * g + i)]) := by show _ = _; rw [cel_at z hq, ← Nat.add_assoc, List.take_add_one, List.getElem?_eq_getElem hq]; rfl
          have hlt := HT.out.inv.byt' _ (cel_mem z hq)
          have hsz := HB.out.size
          have HN : Hid (n + 1 ≤ 1000000) := by
            have h1 := OwnE.len HO.out
            have h2 := ents_len_le (z.take (8 * g + i))
            rw [List.length_take] at h2
            have := HL.out
            show _ ≤ _
            omega
          generalize val (wrd z g) = wv at hw HA
          generalize cel z (8 * g + i) = cc at hk hv HA HS hlt
          obtain ⟨bt, k, v⟩ := cc
          simp only [] at hk hv HA hlt
          clear hq hi8'
          by_cases hf : bt < 128
          · have HE : Hid (ents (z.take (8 * g + (i + 1))) = ents (z.take (8 * g + i)) ++ [(k, v)]) := by show _ = _; rw [HS.out, ents_append, ents_cons_yes hf]; rfl
            have hfz : (bt : Int) < 128 := by omega
            go_wp2_with (first | (go_at_call 200; refine (HA _).mono ?_; rintro e wr ⟨rfl, rfl⟩) | (at_builtin; refine append_e rfl (.tmp 28) (.tmp 39) rfl w.heap.size rfl (OwnR.keep HO.out (alloc_below wr _)) rfl (by simp; rfl) (by simp; rfl) HN.out (Nat.le_trans hsz (alloc_below wr _).size) ?_; intro a3 n3 c3 w3 hn3 HO3 HG3 HW3; have HB3 : Hid (Below w.heap.size w w3) := (HB.out.trans ((alloc_below wr _).mono hsz)).trans ((OwnR.keep HO.out (alloc_below wr _)).below HG3.out (Nat.le_trans hsz (alloc_below wr _).size))))
            go_roundg (gk - 1)
            case measure => omega
            case rel => exact ⟨i + 1, _, _, _, by omega, by go_num, rfl, by rw [HE.out, ← hn3]; exact HO3, HB3⟩
          · have HE : Hid (ents (z.take (8 * g + (i + 1))) = ents (z.take (8 * g + i))) := by show _ = _; rw [HS.out, ents_append, ents_cons_no (by omega : 128 ≤ bt)]; exact List.append_nil _
            have hfz : ¬ (bt : Int) < 128 := by omega
            go_wp2_with fail
            refine (HA _).mono ?_
            rintro e wr ⟨rfl, rfl⟩
            go_wp2
            go_roundg (gk - 1)
            case measure => omega
            case rel => exact ⟨i + 1, _, _, _, by omega, by go_num, rfl, by rw [HE.out]; exact HO, HB⟩
        · have HE : Hid (8 * (g + 1) = 8 * g + i) := by show _ = _; omega
          go_wp2
          go_roundg (ga - 1)
          case measure => have := HK.out; omega
          case rel => exact ⟨g + 1, _, _, _, by have := HK.out; omega, by go_num, rfl, by rw [HE.out]; exact HO, HB⟩
    · have HE : Hid (z.take (8 * g) = z) := by show _ = _; rw [List.take_of_length_le (by have := HL.out; omega)]
      rw [HE.out] at HO
      go_wp2
      go_ret
      exact ⟨HB.out, _, _, _, rfl, HO.out⟩
theorem take_snoc {α : Type} (l : List α) (d : α) (k : Nat) (h : k < l.length) : l.take (k + 1) = l.take k ++ [l.getD k d] := by
  rw [List.take_add_one, List.getD_eq_getElem?_getD, List.getElem?_eq_getElem h]; rfl
theorem Seven_nat (h : Nat) (w : World) (hh : h < 18446744073709551616) : Calls Tryz.prog 195 #[.int .u64 h] w fun e w' => e = .returned (.int .u8 (sev h : Nat)) ∧ w' = w := by
  have := Seven_any h w (by omega) (by omega)
  rw [show (h : Int) / 144115188075855872 = (sev h : Nat) by unfold sev; omega] at this
  exact this
/-- No slot of the groups that were probed has the key. -/
def NoK (z : List Cl) (G h : Nat) (k : ByteArray) (j : Nat) : Prop := ∀ i, i < j → ∀ s, s < 8 → (cel z (8 * gAt G h i + s)).1 < 128 → (cel z (8 * gAt G h i + s)).2.1 ≠ k
/-- What find answers. -/
def Fnd (z : List Cl) (G : Nat) (k : ByteArray) (e : Ending) : Prop :=
  (∃ g i : Nat, g < G ∧ i < 8 ∧ (cel z (8 * g + i)).1 < 128 ∧ (cel z (8 * g + i)).2.1 = k ∧ e = .returned (.tuple #[.int .i64 g, .int .i64 i, .bool true])) ∨
  (k ∉ (ents z).map (·.1) ∧ e = .returned (.tuple #[.int .i64 0, .int .i64 0, .bool false]))
theorem str_beq (s t : ByteArray) : (s.toList == t.toList) = decide (s = t) := by
  rw [ByteArray.toList_eq, ByteArray.toList_eq]
  by_cases h : s = t
  · rw [decide_eq_true h, h]; simp
  · rw [decide_eq_false h, beq_eq_false_iff_ne]
    intro e
    refine h ?_
    cases s; cases t
    exact congrArg ByteArray.mk (Array.toList_inj.1 e)
theorem mem_slots {p : Nat → Bool} {k i : Nat} : i ∈ slots p k ↔ i < k ∧ p i = true := by unfold slots; rw [List.mem_filter, List.mem_range]
theorem getD_mem {l : List Nat} {i : Nat} (h : i < l.length) : l.getD i 0 ∈ l := by
  rw [List.getD_eq_getElem?_getD, List.getElem?_eq_getElem h]; exact List.getElem_mem h
set_option maxRecDepth 100000 in
set_option maxHeartbeats 4000000 in
theorem find_any (B p b x G : Nat) (z : List Cl) (k : ByteArray) (w : World) (hT : Tab w B p b x G z) :
    Calls Tryz.prog 181 #[ptr p, .int .u64 (hsh x k : Nat), .string k] w fun e w' => Below w.heap.size w w' ∧ Fnd z G k e := by
  have hc := hT.top.groups
  have hG := hT.inv.grp.le
  have hG0 := hT.inv.grp.pos
  have HT : Hid (Tab w B p b x G z) := hT
  have HL : Hid (z.length = 8 * G) := hT.inv.len
  have HB : Hid (Below w.heap.size w w) := Below.refl _ _
  have hh := hsh_lt x k
  have HH := fun w (hT : Top w p b x G) => home_any p b x G (hsh x k) w hT HT.out.inv.grp hh
  have HS := fun w => Seven_nat (hsh x k) w hh
  have HX := fun g (hg : g < G) w (hT : Top w p b x G) => next_any p b x G g w hT HT.out.inv.grp hg
  obtain ⟨h, eh⟩ : ∃ h, hsh x k = h := ⟨_, rfl⟩
  have HEh : Hid (hsh x k = h) := eh
  have HSV : Hid (sev h < 128) := by show _ < _; rw [← eh]; exact sev_lt x k
  rw [eh] at hh HH HS ⊢
  clear hT eh
  go_enter Tryz.func181, Tryz.ntmps181
  go_wp2_with fail
  refine (HH _ HT.out.top).mono ?_
  rintro e w ⟨rfl, rfl⟩
  go_wp2
  clear hc HH
  go_loopg [9, 11, 20] G (fun q gv iv jv wr => ∃ j : Nat, j + q = G ∧ jv = .int .i64 j ∧ gv = .int .i64 (gAt G h j : Nat) ∧ Hid (NoK z G h k j) ∧ Hid (Below w.heap.size w wr))
  case atStart => exact ⟨0, by omega, rfl, rfl, (fun i hi => absurd hi (by omega)), HB⟩
  case round =>
    clear HB
    obtain ⟨j, hj, rfl, rfl, HN, HB⟩ := hrel
    obtain ⟨ga, hga⟩ : ∃ ga, ga = gk := ⟨_, rfl⟩
    subst hga
    obtain ⟨wa, hwa⟩ : ∃ wa, wa = wr := ⟨_, rfl⟩
    subst hwa
    have HK : Hid (j + ga = G) := hj
    have HTr : Hid (Tab wa B p b x G z) := HT.out.keep HB.out
    by_cases h8 : (j : Int) < G
    · have hgG : gAt G h j < G := gAt_lt hG0 h j
      have HXg := HX _ hgG
      rw [gAt_next] at HXg
      have hc := HTr.out.top.groups
      have hw := HTr.out.row.word hgG
      have HM := fun w => Match_any (HT.out.inv.ok hgG) (sev h) (by have := HSV.out; omega) w
      have HE := fun w => HasEmpty_any (HT.out.inv.ok hgG) w
      have hsv : sev h < 128 := HSV.out
      obtain ⟨g, eg⟩ : ∃ g, gAt G h j = g := ⟨_, rfl⟩
      have HEG : Hid (gAt G h j = g) := eg
      rw [eg] at hgG HXg hw HM HE ⊢
      have hgz : (g : Int) < G := by omega
      obtain ⟨wv, ewv⟩ : ∃ wv, val (wrd z g) = wv := ⟨_, rfl⟩
      rw [ewv] at hw HM HE
      obtain ⟨sv, esv⟩ : ∃ sv, sev h = sv := ⟨_, rfl⟩
      have HES : Hid (sev h = sv) := esv
      rw [esv] at HM HS hsv
      have HD : Hid (Below wa.heap.size wa wa.drew) := below_drewN wa 1
      have HCL : Hid (∀ w', Below wa.heap.size wa w' → w'.cell? ⟨p, 1, none⟩ = some (.slice (some ⟨b, 0, none⟩) G G) ∧ w'.cell? ⟨b, g * 17, none⟩ = some (.int .u64 (wv : Nat))) := by
        intro w' hb
        refine ⟨(HTr.out.keep hb).top.groups, ?_⟩
        rw [← ewv]
        exact (HTr.out.keep hb).row.word hgG
      have HLS : Hid (∀ s, s < 8 → (cel z (8 * g + s)).1 < 128 → (cel z (8 * g + s)).2.1 = k → s ∈ slots (has (wrd z g) sv) 8) := by
        intro s hs h1 h2
        refine mem_slots.2 ⟨hs, decide_eq_true ?_⟩
        rw [wrd_get HL.out hgG hs, HT.out.inv.sev (8 * g + s) (by omega) h1, h2, HEh.out, esv]
      have HLF : Hid (∀ s, s ∈ slots (has (wrd z g) sv) 8 → s < 8 ∧ (cel z (8 * g + s)).1 < 128) := by
        intro s hs
        obtain ⟨h1, h2⟩ := mem_slots.1 hs
        have := of_decide_eq_true h2
        rw [wrd_get HL.out hgG h1] at this
        exact ⟨h1, by omega⟩
      have HML : Hid ((slots (has (wrd z g) sv) 8).length ≤ 8) := slots_len _ _
      have HEE : Hid (hasE z g = some? (has (wrd z g) 128) 8) := rfl
      generalize some? (has (wrd z g) 128) 8 = em at HE HEE
      generalize slots (has (wrd z g) sv) 8 = ms at HM HLS HLF HML
      clear hj eg ewv esv HX
      go_upto_region 4 with fail
      go_region_held3 (fun w' => w'.cell? ⟨p, 1, none⟩ = some (.slice (some ⟨b, 0, none⟩) G G) ∧ w'.cell? ⟨b, g * 17, none⟩ = some (.int .u64 (wv : Nat))) (exact HCL.out _ HD.out) (first
        | (go_at_call 195; refine (HS _).mono ?_; rintro e wx ⟨rfl, rfl⟩)
        | (go_at_call 194; refine (HM _).mono ?_; rintro e wx ⟨hb, am, nm, cm, rfl, hO⟩; replace HD := step_below HD hb))
      clear HM HS hw hc hb
      have HO : Hid (OwnI wx _ am nm cm ms) := hO
      have HNM : Hid (ms.length = nm) := hO.len
      have hnm : nm ≤ 8 := by have := HML.out; have := HNM.out; omega
      clear hO
      go_wp2
      go_loopg [11, 34] nm (fun q iv tv wr => wx = wr ∧ ∃ t : Nat, t + q = nm ∧ tv = .int .i64 t ∧ Hid (∀ s, s ∈ ms.take t → (cel z (8 * g + s)).2.1 ≠ k))
      case atStart => exact ⟨rfl, 0, by omega, rfl, fun s hs => absurd hs (by simp)⟩
      case round =>
        obtain ⟨rfl, t, ht, rfl, HNO⟩ := hrel
        have HTx : Hid (Tab wx B p b x G z) := HTr.out.keep HD.out
        have hc := HTx.out.top.groups
        by_cases h9 : (t : Int) < nm
        · obtain ⟨bm, om, ea, hcm⟩ := HO.out.rd.cell t (by omega)
          subst ea
          have hmem : ms.getD t 0 ∈ ms := getD_mem (by have := HNM.out; omega)
          have HSN : Hid (ms.take (t + 1) = ms.take t ++ [ms.getD t 0]) := take_snoc ms 0 t (by have := HNM.out; omega)
          obtain ⟨hs8, hsf⟩ := HLF.out _ hmem
          have hk := HTx.out.row.key hgG hs8
          generalize ms.getD t 0 = s at hcm HSN hs8 hsf hk
          have HSF : Hid ((cel z (8 * g + s)).1 < 128) := hsf
          have hsz : (s : Int) < 8 := by omega
          obtain ⟨kk, hkk⟩ : ∃ kk, (cel z (8 * g + s)).2.1 = kk := ⟨_, rfl⟩
          have HKK : Hid ((cel z (8 * g + s)).2.1 = kk) := hkk
          rw [hkk] at hk
          clear hkk hmem hsf
          by_cases hek : kk = k
          · subst hek
            go_wp2
            go_ret3
            exact ⟨HB.out.trans (HD.out.mono HB.out.size), .inl ⟨g, s, hgG, hs8, HSF.out, HKK.out, rfl⟩⟩
          · have hkb : (kk.toList == k.toList) = false := by rw [str_beq]; exact decide_eq_false hek
            go_wp2
            go_roundg (gk - 1)
            case measure => omega
            case rel =>
              refine ⟨rfl, t + 1, by omega, by go_num, ?_⟩
              intro s' hs'
              rw [HSN.out] at hs'
              rcases List.mem_append.1 hs' with hs' | hs'
              · exact HNO.out s' hs'
              · rw [List.mem_singleton.1 hs', HKK.out]; exact hek
        · have HNO' : Hid (NoK z G h k (j + 1)) := by
            intro i hi s hs h1 h2
            by_cases hij : i = j
            · subst hij
              rw [HEG.out] at h1 h2
              have := HLS.out s hs h1 h2
              exact HNO.out s (by rw [List.take_of_length_le (by have := HNM.out; omega)]; exact this) h2
            · exact HN.out i (by omega) s hs h1 h2
          have hw := (HCL.out _ HD.out).2
          have HBx : Hid (Below w.heap.size w wx) := HB.out.trans (HD.out.mono HB.out.size)
          cases em with
          | true =>
            have HST : Hid (k ∉ (ents z).map (·.1)) := by
              refine HT.out.inv.stop (j := j) ?_ (.inl ?_)
              · rw [HEh.out]; exact fun i hi => HNO'.out i (by omega)
              · rw [HEh.out, HEG.out]; exact HEE.out
            clear HNO
            go_wp2_with fail
            refine (HE _).mono ?_
            rintro e wx ⟨rfl, rfl⟩
            go_wp2
            go_ret3
            exact ⟨HBx.out, .inr ⟨HST.out, rfl⟩⟩
          | false =>
            clear HNO
            go_wp2_with fail
            refine (HE _).mono ?_
            rintro e wx ⟨rfl, rfl⟩
            go_wp2_with fail
            refine (HXg _ HTx.out.top).mono ?_
            rintro e wx ⟨rfl, rfl⟩
            go_wp2
            go_roundg (ga - 1)
            case measure => have := HK.out; omega
            case rel => exact ⟨j + 1, by have := HK.out; omega, by go_num, rfl, HNO', HBx⟩
    · have HST : Hid (k ∉ (ents z).map (·.1)) := by
        refine HT.out.inv.stop (j := G - 1) ?_ (.inr (by omega))
        rw [HEh.out]
        exact fun i hi => HN.out i (by omega)
      go_wp2
      go_ret3
      exact ⟨HB.out, .inr ⟨HST.out, rfl⟩⟩
/-- Where a new key is laid: the first slot that is free on the way of its hash. -/
def Spr (z : List Cl) (G h : Nat) (g i : Nat) : Prop := ∃ j, j < G ∧ gAt G h j = g ∧ i < 8 ∧ 128 ≤ (cel z (8 * g + i)).1 ∧ (∀ s, s < i → (cel z (8 * g + s)).1 < 128) ∧ ∀ j', j' < j → ∀ s, s < 8 → (cel z (8 * gAt G h j' + s)).1 < 128
theorem Spr.one {z : List Cl} {G h g i g' i' : Nat} (h1 : Spr z G h g i) (h2 : Spr z G h g' i') : g = g' ∧ i = i' := by
  obtain ⟨j, a1, a2, a3, a4, a5, a6⟩ := h1
  obtain ⟨j', b1, b2, b3, b4, b5, b6⟩ := h2
  have e : j = j' := by
    rcases Nat.lt_trichotomy j j' with h | h | h
    · have := b6 j h i a3
      rw [a2] at this
      omega
    · exact h
    · have := a6 j' h i' b3
      rw [b2] at this
      omega
  subst e
  rw [a2] at b2
  subst b2
  refine ⟨rfl, ?_⟩
  rcases Nat.lt_trichotomy i i' with h | h | h
  · have := b5 i h; omega
  · exact h
  · have := a5 i' h; omega
theorem slots_first {p : Nat → Bool} {k s : Nat} (h : 0 < (slots p k).length) (hs : s < (slots p k).getD 0 0) (hk : s < k) : p s = false := by
  apply Bool.eq_false_iff.2
  intro hp
  have hm : s ∈ slots p k := mem_slots.2 ⟨hk, hp⟩
  have hw : (slots p k).Pairwise (· < ·) := List.Pairwise.filter _ List.pairwise_lt_range
  generalize slots p k = l at h hs hm hw
  cases l with
  | nil => simp at h
  | cons a l =>
    rw [List.getD_cons_zero] at hs
    rcases List.mem_cons.1 hm with rfl | hm
    · omega
    · have := (List.pairwise_cons.1 hw).1 s hm
      omega
set_option maxRecDepth 100000 in
set_option maxHeartbeats 4000000 in
theorem spare_any (B p b x G h : Nat) (z : List Cl) (w : World) (hT : Tab w B p b x G z) (hh : h < 18446744073709551616) :
    Calls Tryz.prog 208 #[ptr p, .int .u64 h] w fun e w' => Below w.heap.size w w' ∧ ∃ g i : Nat, e = .returned (.tuple #[.int .i64 g, .int .i64 i]) ∧ Spr z G h g i := by
  have hc := hT.top.groups
  have hG := hT.inv.grp.le
  have hG0 := hT.inv.grp.pos
  have HT : Hid (Tab w B p b x G z) := hT
  have HL : Hid (z.length = 8 * G) := hT.inv.len
  have HB : Hid (Below w.heap.size w w) := Below.refl _ _
  have HH := fun w (hT : Top w p b x G) => home_any p b x G h w hT HT.out.inv.grp hh
  have HX := fun g (hg : g < G) w (hT : Top w p b x G) => next_any p b x G g w hT HT.out.inv.grp hg
  have HFr := fun g (hg : g < G) w => Free_any (HT.out.inv.ok hg) w
  obtain ⟨jE, hjE, HJE⟩ : ∃ jE, jE < G ∧ Hid (∃ s, s < 8 ∧ 128 ≤ (cel z (8 * gAt G h jE + s)).1) := by
    obtain ⟨q, hq, h1⟩ := hT.inv.empty
    obtain ⟨j, hj, h2⟩ := gAt_all (G := G) h (g := q / 8) (by omega)
    refine ⟨j, hj, q % 8, Nat.mod_lt _ (by decide), ?_⟩
    rw [h2, show 8 * (q / 8) + q % 8 = q by omega]
    omega
  have HMS : Hid (∀ g, g < G → ∀ s, s ∈ slots (fre (wrd z g)) 8 ↔ s < 8 ∧ 128 ≤ (cel z (8 * g + s)).1) := by
    intro g hg s
    rw [mem_slots]
    constructor
    · rintro ⟨h1, h2⟩
      have := of_decide_eq_true h2
      rw [wrd_get HL.out hg h1] at this
      exact ⟨h1, this⟩
    · rintro ⟨h1, h2⟩
      exact ⟨h1, decide_eq_true (by rw [wrd_get HL.out hg h1]; exact h2)⟩
  clear hT
  have hgG0 := gAt_lt hG0 h 0
  have hgz0 : ((gAt G h 0 : Nat) : Int) < G := by omega
  have hw0 := HT.out.row.word hgG0
  have HF0 := HFr _ hgG0
  go_enter Tryz.func208, Tryz.ntmps208
  go_wp2_with fail
  refine (HH _ HT.out.top).mono ?_
  rintro e w ⟨rfl, rfl⟩
  generalize hg0 : gAt G h 0 = g0 at hgG0 hgz0 hw0 HF0
  have HG0 : Hid (gAt G h 0 = g0) := hg0
  clear hg0
  generalize val (wrd z g0) = wv at hw0 HF0
  go_wp2_with fail
  refine (HF0 _).mono ?_
  rintro e w1 ⟨hb, a0, n0, c0, rfl, hO⟩
  have HB1 := step_below HB hb
  have HO1 : Hid (OwnI w1 0 a0 n0 c0 (slots (fre (wrd z g0)) 8)) := by
    refine ⟨hO.1, ?_⟩
    rcases hO.2 with h2 | ⟨g, c, cur, h1, h3, h4⟩
    · exact .inl h2
    · exact .inr ⟨g, c, cur, h1, Nat.zero_le _, h4⟩
  clear hb hO hw0 HF0 hc HH HB
  go_wp2
  go_loopg [6, 7] jE (fun q gv fv wr => ∃ (j g : Nat) (a : Option Addr) (n c : Nat), j + q = jE ∧ gv = .int .i64 g ∧ fv = .slice a n c ∧ Hid (gAt G h j = g) ∧ Hid (OwnI wr 0 a n c (slots (fre (wrd z g)) 8)) ∧ Hid (∀ j', j' < j → ∀ s, s < 8 → (cel z (8 * gAt G h j' + s)).1 < 128) ∧ Hid (Below w.heap.size w wr))
  case atStart => exact ⟨0, g0, a0, n0, c0, by omega, rfl, rfl, HG0, HO1, (fun j' hj' => absurd hj' (by omega)), HB1⟩
  case round =>
    clear HO1 HB1 hgG0 hgz0
    obtain ⟨j, g, a, n, c, hj, rfl, rfl, HEG, HO, HNO, HB⟩ := hrel
    have hgG : g < G := by rw [← HEG.out]; exact gAt_lt hG0 h j
    have HTr : Hid (Tab wr B p b x G z) := HT.out.keep HB.out
    have HLN : Hid ((slots (fre (wrd z g)) 8).length = n) := HO.out.len
    have hn8 : n ≤ 8 := by have := slots_len (fre (wrd z g)) 8; have := HLN.out; omega
    by_cases h0 : n = 0
    · subst h0
      have HNF : Hid (∀ s, s < 8 → (cel z (8 * g + s)).1 < 128) := by
        intro s hs
        apply Classical.byContradiction
        intro hn
        have := (HMS.out g hgG s).2 ⟨hs, by omega⟩
        rw [List.length_eq_zero_iff.1 HLN.out] at this
        simp at this
      have hjj : j < jE := by
        apply Classical.byContradiction
        intro hn
        have e : j = jE := by omega
        subst e
        obtain ⟨s, hs, h1⟩ := HJE.out
        rw [HEG.out] at h1
        have := HNF.out s hs
        omega
      have HXg := HX g hgG
      have hgE : (g + 1) % G = gAt G h (j + 1) := by rw [← HEG.out]; exact gAt_next h j
      rw [hgE] at HXg
      have hg1 := gAt_lt hG0 h (j + 1)
      have HF1 := HFr _ hg1
      have hw1 := HTr.out.row.word hg1
      have hc := HTr.out.top.groups
      generalize hg1e : gAt G h (j + 1) = g1 at hg1 HF1 hw1 HXg
      have HG1 : Hid (gAt G h (j + 1) = g1) := hg1e
      have hg1z : (g1 : Int) < G := by omega
      generalize val (wrd z g1) = wv1 at hw1 HF1
      clear hg1e hgE
      go_wp2_with fail
      refine (HXg _ HTr.out.top).mono ?_
      rintro e wr ⟨rfl, rfl⟩
      go_wp2_with fail
      refine (HF1 _).mono ?_
      rintro e w2 ⟨hb, a2, n2, c2, rfl, hO⟩
      have HB2 := step_below HB hb
      have HO2 : Hid (OwnI w2 0 a2 n2 c2 (slots (fre (wrd z g1)) 8)) := by
        refine ⟨hO.1, ?_⟩
        rcases hO.2 with h2 | ⟨g, c, cur, h1, h3, h4⟩
        · exact .inl h2
        · exact .inr ⟨g, c, cur, h1, Nat.zero_le _, h4⟩
      have HNO2 : Hid (∀ j', j' < j + 1 → ∀ s, s < 8 → (cel z (8 * gAt G h j' + s)).1 < 128) := by
        intro j' hj' s hs
        by_cases e : j' = j
        · subst e; rw [HEG.out]; exact HNF.out s hs
        · exact HNO.out j' (by omega) s hs
      clear hb hO
      go_wp2
      go_roundg (gk - 1)
      case measure => omega
      case rel => exact ⟨j + 1, g1, _, _, _, by omega, rfl, rfl, HG1, HO2, HNO2, HB2⟩
    · obtain ⟨bm, om, ea, hcm⟩ := HO.out.rd.cell 0 (by omega)
      subst ea
      have hmem : (slots (fre (wrd z g)) 8).getD 0 0 ∈ slots (fre (wrd z g)) 8 := getD_mem (by have := HLN.out; omega)
      obtain ⟨hs8, hsf⟩ := (HMS.out g hgG _).1 hmem
      have HFI : Hid (∀ s, s < (slots (fre (wrd z g)) 8).getD 0 0 → (cel z (8 * g + s)).1 < 128) := by
        intro s hs
        have h1 := slots_first (by have := HLN.out; omega) hs (by omega)
        have h2 := of_decide_eq_false h1
        rw [wrd_get HL.out hgG (by omega)] at h2
        omega
      generalize (slots (fre (wrd z g)) 8).getD 0 0 = s at hcm hs8 hsf HFI
      have HSF : Hid (128 ≤ (cel z (8 * g + s)).1) := hsf
      have hnz : ((n : Int) == 0) = false := by simp; omega
      have hnp : (0 : Int) < n := by omega
      have hnp' : 0 < n := by omega
      rw [Nat.add_zero] at hcm
      have HBQ : Hid (∀ q, Below w.heap.size w (wr.drewN q)) := fun q => HB.out.trans ((below_drewN wr q).mono HB.out.size)
      clear hmem hsf HX HFr
      go_wp2
      go_quiet (fail)
      go_wp2
      go_ret2
      exact ⟨HBQ.out _, g, s, rfl, j, by omega, HEG.out, hs8, HSF.out, HFI.out, HNO.out⟩
theorem Get_some (B p b x G : Nat) (z : List Cl) (k : ByteArray) (v : Int) (w : World) (hT : Tab w B p b x G z) (hk : k.size ≤ maxLen) (hm : (k, v) ∈ ents z) :
    Calls Tryz.prog 135 #[ptr p, .string k] w fun e w' => e = .returned (.tuple #[.int .u64 v, .bool true]) ∧ Below w.heap.size w w' := by
  have hc := hT.top.seed
  have HO := fun w => Of_any x k w hk hT.seed
  have HF := fun w hT => find_any B p b x G z k w hT
  have HT : Hid (Tab w B p b x G z) := hT
  have HM : Hid ((k, v) ∈ ents z) := hm
  change ∀ w, Calls Tryz.prog 122 #[.int .u64 x, .string k] w fun e w' => e = .returned (.int .u64 (hsh x k : Nat)) ∧ w' = w at HO
  generalize hsh x k = h at HO HF
  clear hT hm hk
  go_enter Tryz.func135, Tryz.ntmps135
  go_wp2_with fail
  refine (HO _).mono ?_
  rintro e w ⟨rfl, rfl⟩
  go_wp2_with fail
  refine (HF _ HT.out).mono ?_
  rintro e w1 ⟨hb, hF⟩
  have HT1 : Hid (Tab w1 B p b x G z) := HT.out.keep hb
  have HB1 : Hid (Below w.heap.size w w1) := hb
  rcases hF with ⟨g, i, hg, hi, h1, h2, rfl⟩ | ⟨h1, rfl⟩
  · have hv := HT1.out.row.vl hg hi
    have hc2 := HT1.out.top.groups
    have e : (cel z (8 * g + i)).2.2 = v := by
      refine HT1.out.inv.val (k := k) (mem_ents.2 ⟨8 * g + i, by rw [HT1.out.inv.len]; omega, h1, ?_⟩) HM.out
      rw [← h2]
    rw [e] at hv
    clear h1 h2 e hb hc
    go_wp2
    go_ret2
    exact ⟨rfl, HB1.out⟩
  · exact absurd (List.mem_map.2 ⟨_, HM.out, rfl⟩) h1
theorem Get_none (B p b x G : Nat) (z : List Cl) (k : ByteArray) (w : World) (hT : Tab w B p b x G z) (hk : k.size ≤ maxLen) (hm : k ∉ (ents z).map (·.1)) :
    Calls Tryz.prog 135 #[ptr p, .string k] w fun e w' => e = .returned (.tuple #[.int .u64 0, .bool false]) ∧ Below w.heap.size w w' := by
  have hc := hT.top.seed
  have HO := fun w => Of_any x k w hk hT.seed
  have HF := fun w hT => find_any B p b x G z k w hT
  have HT : Hid (Tab w B p b x G z) := hT
  have HM : Hid (k ∉ (ents z).map (·.1)) := hm
  change ∀ w, Calls Tryz.prog 122 #[.int .u64 x, .string k] w fun e w' => e = .returned (.int .u64 (hsh x k : Nat)) ∧ w' = w at HO
  generalize hsh x k = h at HO HF
  clear hT hm hk
  go_enter Tryz.func135, Tryz.ntmps135
  go_wp2_with fail
  refine (HO _).mono ?_
  rintro e w ⟨rfl, rfl⟩
  go_wp2_with fail
  refine (HF _ HT.out).mono ?_
  rintro e w1 ⟨hb, hF⟩
  have HB1 : Hid (Below w.heap.size w w1) := hb
  rcases hF with ⟨g, i, hg, hi, h1, h2, rfl⟩ | ⟨h1, rfl⟩
  · refine absurd (List.mem_map.2 ⟨_, mem_ents.2 ⟨8 * g + i, by rw [HT.out.inv.len]; omega, h1, rfl⟩, h2⟩) HM.out
  · clear h1 hb hc
    go_wp2
    go_ret2
    exact ⟨rfl, HB1.out⟩
/-- G groups, the first k of them with their words. -/
def zk (G k : Nat) : List Cl := (List.range (8 * G)).map fun q => ((if q < 8 * k then 128 else 0), ⟨#[]⟩, 0)
theorem zk_len (G k : Nat) : (zk G k).length = 8 * G := by simp [zk]
theorem cel_zk {G q : Nat} (k : Nat) (h : q < 8 * G) : cel (zk G k) q = ((if q < 8 * k then 128 else 0), ⟨#[]⟩, 0) := by
  rw [cel_at _ (by rw [zk_len]; exact h)]
  simp [zk]
theorem zk_all (G : Nat) : zk G G = news0 G := by
  apply List.ext_getElem (by simp [zk, news0])
  intro i h1 h2
  rw [zk_len] at h1
  simp [zk, news0, h1]
theorem wrd_zk_no {G k g : Nat} (hg : g < G) (h : k ≤ g) : wrd (zk G k) g = [0, 0, 0, 0, 0, 0, 0, 0] := by
  refine wrd_ext (zk_len G k) hg _ rfl (fun i hi => ?_)
  rw [cel_zk k (by omega)]
  simp only [if_neg (show ¬ 8 * g + i < 8 * k by omega)]
  rcases slot8 hi with rfl | rfl | rfl | rfl | rfl | rfl | rfl | rfl <;> rfl
theorem wrd_zk_yes {G k g : Nat} (hg : g < G) (h : g < k) : wrd (zk G k) g = new8 := by
  refine wrd_ext (zk_len G k) hg _ rfl (fun i hi => ?_)
  rw [cel_zk k (by omega)]
  simp only [if_pos (show 8 * g + i < 8 * k by omega)]
  rcases slot8 hi with rfl | rfl | rfl | rfl | rfl | rfl | rfl | rfl <;> rfl
theorem Row.whole {w : World} {b G g : Nat} {z z' : List Cl} (h : Row w b G z) (l : List Nat) (h1 : wrd z' g = l) (h2 : ∀ g', g' < G → g' ≠ g → wrd z' g' = wrd z g') (h3 : ∀ q, q < 8 * G → (cel z' q).2 = (cel z q).2) :
    Row (w.setCell ⟨b, g * 17, none⟩ (.int .u64 (val l : Nat))) b G z' := by
  obtain ⟨cs, k1, k2⟩ := h.ex
  refine ⟨_, heap_set k1 _, k2.put _ _ ?_ ?_ ?_⟩
  · intro g' hg'
    split
    · have : g' = g := by omega
      subst this
      rw [h1]
    · exact h2 g' hg' (by rintro rfl; contradiction)
  · intro g' i' hg' hi'
    rw [if_neg (by omega), h3 _ (by omega)]
  · intro g' i' hg' hi'
    rw [if_neg (by omega), h3 _ (by omega)]
abbrev zgrp : Value := .agg #[.int .u64 0, .string ⟨#[]⟩, .int .u64 0, .string ⟨#[]⟩, .int .u64 0, .string ⟨#[]⟩, .int .u64 0, .string ⟨#[]⟩, .int .u64 0, .string ⟨#[]⟩, .int .u64 0, .string ⟨#[]⟩, .int .u64 0, .string ⟨#[]⟩, .int .u64 0, .string ⟨#[]⟩, .int .u64 0]
theorem Tryz.infoG : (Tryz.prog.info? 235).map (fun i => (i.zero, i.size, i.bytes)) = some (some zgrp, 17, 200) := by kernel_rfl
theorem made_get (Z : Array Value) (hz : Z.size = 17) (n g r : Nat) (hg : g < n) (hr : r < 17) : (madeCells Z (n * 17))[g * 17 + r]? = some (Z[r]!) := by
  unfold madeCells
  rw [Array.getElem?_map, Array.getElem?_range, if_pos (by omega), Option.map_some, hz, show (g * 17 + r) % 17 = r by omega]
theorem make_groups (w : World) (n : Nat) (hn : n ≤ 16) :
    (Instr.makeSlice 161 (.int .i64 (n : Int)) (.int .i64 (n : Int))).run Tryz.prog w = .ok (.slice (some ⟨w.heap.size, 0, none⟩) n n) (w.alloc (.cells (madeCells zgrp.cells (n * 17)) 235)) := by
  obtain ⟨i, h1, h2, h3, h4⟩ := info_parts Tryz.infoG
  have := run_make (P := Tryz.prog) w 161 235 i zgrp Tryz.underlying161 h1 h2 .i64 .i64 n n (by omega) (Int.le_refl _) (by rw [h4]; omega) (by omega)
  rw [h3, Int.toNat_natCast] at this
  exact this
theorem row_made (w : World) (n : Nat) : Row (w.alloc (.cells (madeCells zgrp.cells (n * 17)) 235)) w.heap.size n (zk n 0) := by
  have hz : zgrp.cells.size = 17 := rfl
  refine ⟨_, heap_alloc_new w _, by rw [size_madeCells]; omega, ?_, ?_, ?_⟩
  · intro g hg
    have := made_get zgrp.cells hz n g 0 hg (by decide)
    rw [Nat.add_zero] at this
    rw [this, wrd_zk_no hg (Nat.zero_le _)]
    rfl
  · intro g i hg hi
    have := made_get zgrp.cells hz n g (1 + i * 2) hg (by omega)
    rw [← Nat.add_assoc] at this
    rw [this, cel_zk 0 (by omega)]
    rcases slot8 hi with rfl | rfl | rfl | rfl | rfl | rfl | rfl | rfl <;> rfl
  · intro g i hg hi
    have := made_get zgrp.cells hz n g (1 + i * 2 + 1) hg (by omega)
    rw [← Nat.add_assoc, ← Nat.add_assoc] at this
    rw [this, cel_zk 0 (by omega)]
    rcases slot8 hi with rfl | rfl | rfl | rfl | rfl | rfl | rfl | rfl <;> rfl
set_option maxRecDepth 100000 in
set_option maxHeartbeats 4000000 in
theorem emptyGroups_any (n : Nat) (w : World) (hn : n ≤ 16) :
    Calls Tryz.prog 87 #[.int .i64 n] w fun e w' => e = .returned (.slice (some ⟨w.heap.size, 0, none⟩) n n) ∧ Below w.heap.size w w' ∧ Row w' w.heap.size n (news0 n) := by
  have hmk := make_groups w n hn
  obtain ⟨w1, hw1⟩ : ∃ w1, w.alloc (.cells (madeCells zgrp.cells (n * 17)) 235) = w1 := ⟨_, rfl⟩
  have HR : Hid (Row w1 w.heap.size n (zk n 0)) := by show Row _ _ _ _; rw [← hw1]; exact row_made w n
  have HB : Hid (Below w.heap.size w w1) := by show Below _ _ _; rw [← hw1]; exact alloc_below w _
  rw [hw1] at hmk
  clear hw1
  have HN := New_any
  obtain ⟨n8, en8⟩ : ∃ n8, val new8 = n8 := ⟨_, rfl⟩
  have HE8 : Hid (val new8 = n8) := en8
  rw [en8] at HN
  clear en8
  obtain ⟨b, hb⟩ : ∃ b, w.heap.size = b := ⟨_, rfl⟩
  have HBb : Hid (w.heap.size = b) := hb
  rw [hb] at hmk HR
  have HR0 : Hid (w1.heap.size > b) := HR.out.lt
  clear hb
  go_enter Tryz.func87, Tryz.ntmps87
  go_wp2
  go_loopg [4, 9] n (fun q iv jv wr => ∃ g : Nat, g + q = n ∧ jv = .int .i64 g ∧ Hid (Row wr b n (zk n g)) ∧ Hid (Below w.heap.size w wr))
  case atStart => exact ⟨0, by omega, rfl, HR, HB⟩
  case round =>
    clear HB HR
    obtain ⟨g, hg, rfl, HR, HB⟩ := hrel
    by_cases h8 : (g : Int) < n
    · have hgn : g < n := by omega
      go_wp2_with fail
      refine (HN _).mono ?_
      rintro e w2 ⟨rfl, hb2⟩
      have HR2 : Hid (Row w2 b n (zk n g)) := HR.out.keep hb2
      have HB2 := step_below HB hb2
      have hc := HR2.out.word hgn
      have hf := HR2.out.frozen (g * 17)
      have HR3 : Hid (Row (w2.setCell ⟨b, g * 17, none⟩ (.int .u64 (n8 : Nat))) b n (zk n (g + 1))) := by
        show Row _ _ _ _
        rw [← HE8.out]
        refine HR2.out.whole new8 (wrd_zk_yes hgn (by omega)) ?_ ?_
        · intro g' hg' hne
          by_cases hlt : g' < g
          · rw [wrd_zk_yes hg' (by omega), wrd_zk_yes hg' hlt]
          · rw [wrd_zk_no hg' (by omega), wrd_zk_no hg' (by omega)]
        · intro q hq
          rw [cel_zk _ hq, cel_zk _ hq]
      have HB3 : Hid (Below w.heap.size w (w2.setCell ⟨b, g * 17, none⟩ (.int .u64 (n8 : Nat)))) := HB2.out.setCell (p := ⟨b, g * 17, none⟩) (by rw [HBb.out]; exact Nat.le_refl _) _
      generalize val (wrd (zk n g) g) = wv at hc
      clear hb2
      go_wp2
      go_roundg (gk - 1)
      case measure => omega
      case rel => exact ⟨g + 1, by omega, by go_num, HR3, HB3⟩
    · have : g = n := by omega
      subst this
      go_wp2
      go_ret
      exact ⟨by rw [HBb.out]; rfl, HB.out, by rw [HBb.out, ← zk_all]; exact HR.out⟩
theorem New_tab (x : Nat) (w : World) (hx : x < 18446744073709551616) :
    Calls Tryz.prog 45 #[.int .u64 x] w fun e w' => Below w.heap.size w w' ∧ ∃ p b, e = .returned (ptr p) ∧ Tab w' w.heap.size p b x 1 (news0 1) ∧ w.heap.size ≤ p := by
  have HE := emptyGroups_any 1 w (by decide)
  obtain ⟨b, hb⟩ : ∃ b, w.heap.size = b := ⟨_, rfl⟩
  have HBb : Hid (w.heap.size = b) := hb
  rw [hb] at HE
  clear hb
  go_enter Tryz.func45, Tryz.ntmps45
  go_wp2_with fail
  refine HE.mono ?_
  rintro e w1 ⟨rfl, hb1, hR⟩
  have HR : Hid (Row w1 b 1 (news0 1)) := hR
  have HB1 : Hid (Below b w w1) := hb1
  clear hR hb1
  go_wp2
  go_ret
  have hb2 := alloc_below w1 (.cells #[.int .u64 (x : Int), .slice (some ⟨b, 0, none⟩) 1 1] 164)
  have hs := HB1.out.size
  rw [HBb.out] at hs ⊢
  exact ⟨HB1.out.trans (hb2.mono hs), _, b, rfl, ⟨⟨heap_alloc_new w1 _⟩, HR.out.keep hb2, hs, Nat.le_refl _, Inv.news x (.inl rfl), hx, fun e he => by rw [ents_news0] at he; cases he⟩, hs⟩
/-- A slot in a block of its own. -/
def Box (w : World) (q : Nat) (k : ByteArray) (v : Int) : Prop := w.heap[q]? = some (.cells #[.string k, .int .u64 v] 232 (0, 0))
theorem Box.lt {w : World} {q : Nat} {k : ByteArray} {v : Int} (h : Box w q k v) : q < w.heap.size := (Array.getElem?_eq_some_iff.1 h).1
theorem Box.kept {w wn : World} {q : Nat} {k : ByteArray} {v : Int} (h : Box w q k v) (hb : wn.heap[q]? = w.heap[q]?) : Box wn q k v := by unfold Box; rw [hb]; exact h
theorem Box.keep {w wn : World} {q : Nat} {k : ByteArray} {v : Int} (h : Box w q k v) (hb : Below w.heap.size w wn) : Box wn q k v := h.kept (hb.block q h.lt)
theorem Box.key {w : World} {q : Nat} {k : ByteArray} {v : Int} (h : Box w q k v) : w.cell? ⟨q, 0, none⟩ = some (.string k) := by unfold Box at h; simp [World.cell?, h]
theorem Box.vl {w : World} {q : Nat} {k : ByteArray} {v : Int} (h : Box w q k v) : w.cell? ⟨q, 1, none⟩ = some (.int .u64 v) := by unfold Box at h; simp [World.cell?, h]
theorem Box.made (w : World) (k : ByteArray) (v : Int) : Box (w.alloc (.cells #[.string k, .int .u64 v] 232)) w.heap.size k v := heap_alloc_new w _
theorem Box.ne {w : World} {q b G : Nat} {z : List Cl} {k : ByteArray} {v : Int} (h : Box w q k v) (h' : Row w b G z) : q ≠ b := by
  rintro rfl
  obtain ⟨cs, h1, -⟩ := h'.ex
  unfold Box at h
  rw [h1] at h
  simp at h
theorem Box.ne' {w : World} {q p b x G : Nat} {k : ByteArray} {v : Int} (h : Box w q k v) (h' : Top w p b x G) : q ≠ p := by
  rintro rfl
  have := h'.blk
  unfold Box at h
  rw [h] at this
  simp at this
theorem Box.moves {w w' : World} {B q p b x G : Nat} {z : List Cl} {k : ByteArray} {v : Int} (h : Box w q k v) (hm : Moves w w' p b) (hT : Tab w B p b x G z) : Box w' q k v := h.kept (hm.block q h.lt (h.ne' hT.top) (h.ne hT.row))
theorem heap_drewN (w : World) : ∀ n, (w.drewN n).heap = w.heap
  | 0 => rfl
  | n + 1 => heap_drewN w n
/-- Behind the store of the word: the table's parts, and the slot that is to be laid. -/
structure After (w wx : World) (p b x G : Nat) (z : List Cl) (q : Nat) (k : ByteArray) (v : Int) : Prop where
  top : Top wx p b x G
  row : Row wx b G z
  mov : Moves w wx p b
  box : Box wx q k v
set_option maxRecDepth 100000 in
set_option maxHeartbeats 4000000 in
theorem lay_any (B p b x G : Nat) (z : List Cl) (k : ByteArray) (v : Int) (w : World) (hT : Tab w B p b x G z) (hks : k.size ≤ maxLen) (hk : k ∉ (ents z).map (·.1))
    (hr : (ents z).length + dels z < 7 * G ∨ ∃ g i, Spr z G (hsh x k) g i ∧ (cel z (8 * g + i)).1 = 254) :
    Calls Tryz.prog 211 #[ptr p, .int .u64 (hsh x k : Nat), .agg #[.string k, .int .u64 v]] w fun e w' => e = .returned (.tuple #[]) ∧ Moves w w' p b ∧ ∃ z', Tab w' B p b x G z' ∧ (ents z').Perm (ents z ++ [(k, v)]) ∧ dels z' ≤ dels z := by
  have hh := hsh_lt x k
  have HT : Hid (Tab w B p b x G z) := hT
  have HKS : Hid (k.size ≤ maxLen) := hks
  have HKN : Hid (k ∉ (ents z).map (·.1)) := hk
  have HR : Hid ((ents z).length + dels z < 7 * G ∨ ∃ g i, Spr z G (hsh x k) g i ∧ (cel z (8 * g + i)).1 = 254) := hr
  have hG := hT.inv.grp.le
  have HS := fun w hT => spare_any B p b x G (hsh x k) z w hT hh
  have H7 := fun w => Seven_nat (hsh x k) w hh
  have HSV : Hid (sev (hsh x k) < 128) := sev_lt x k
  obtain ⟨h, eh⟩ : ∃ h, hsh x k = h := ⟨_, rfl⟩
  have HEh : Hid (hsh x k = h) := eh
  rw [eh] at HS H7 hh HR HSV ⊢
  clear hT hk hr eh hks
  obtain ⟨w1, hw1⟩ : ∃ w1, w.alloc (.cells #[.string k, .int .u64 v] 232) = w1 := ⟨_, rfl⟩
  have HB1 : Hid (Below w.heap.size w w1) := by show Below _ _ _; rw [← hw1]; exact alloc_below w _
  obtain ⟨q, hq⟩ : ∃ q, w.heap.size = q := ⟨_, rfl⟩
  have HQ : Hid (w.heap.size = q) := hq
  have HX1 : Hid (Box w1 q k v) := by show Box _ _ _ _; rw [← hw1, ← hq]; exact Box.made w k v
  have HT1 : Hid (Tab w1 B p b x G z) := HT.out.keep HB1.out
  go_enter Tryz.func211, Tryz.ntmps211
  go_wp2_with fail
  refine (HS _ HT1.out).mono ?_
  rintro e w2 ⟨hb2, g, i, rfl, hsp⟩
  have HB2 := step_below HB1 hb2
  have HT2 : Hid (Tab w2 B p b x G z) := HT1.out.keep hb2
  have HX2 : Hid (Box w2 q k v) := HX1.out.keep hb2
  have HSP : Hid (Spr z G h g i) := hsp
  obtain ⟨j, hj, hjg, hi8, hfr, hfi, hno⟩ := hsp
  have HF : Hid (128 ≤ (cel z (8 * g + i)).1) := hfr
  have hgG : g < G := by rw [← hjg]; exact gAt_lt HT.out.inv.grp.pos h j
  have hgz : (g : Int) < G := by omega
  have hiz : (i : Int) < 8 := by omega
  have HSet := fun w => Set_in (HT.out.inv.ok hgG) i (sev h) hi8 (by have := HSV.out; omega) w
  have HWD : Hid (∀ w', Below w2.heap.size w2 w' → w'.cell? ⟨p, 1, none⟩ = some (.slice (some ⟨b, 0, none⟩) G G) ∧ w'.cell? ⟨b, g * 17, none⟩ = some (.int .u64 (val (wrd z g) : Nat)) ∧ w'.frozen? ⟨b, g * 17, none⟩ = false) :=
    fun w' hb => ⟨(HT2.out.keep hb).top.groups, (HT2.out.keep hb).row.word hgG, (HT2.out.keep hb).row.frozen _⟩
  obtain ⟨wv, ewv⟩ : ∃ wv, val (wrd z g) = wv := ⟨_, rfl⟩
  rw [ewv] at HSet HWD
  obtain ⟨wn, ewn⟩ : ∃ wn, val ((wrd z g).set i (sev h)) = wn := ⟨_, rfl⟩
  have HWN : Hid (val ((wrd z g).set i (sev h)) = wn) := ewn
  rw [ewn] at HSet
  obtain ⟨sv, esv⟩ : ∃ sv, sev h = sv := ⟨_, rfl⟩
  have HSE : Hid (sev h = sv) := esv
  rw [esv] at H7 HSet
  have HD : Hid (Below w2.heap.size w2 w2.drew) := below_drewN w2 1
  clear hb2 hj hjg hfr hfi hno ewv ewn esv hw1 hq
  obtain ⟨hc2, hw2, hf2⟩ := HWD.out w2 (Below.refl _ _)
  have HAft : Hid (∀ w', Below w2.heap.size w2 w' → After w2 (w'.setCell ⟨b, g * 17, none⟩ (.int .u64 (wn : Nat))) p b x G (z.set (8 * g + i) (sv, (cel z (8 * g + i)).2)) q k v) := by
    intro w' hb
    have hT' := HT2.out.keep hb
    have hne := hT'.top.ne hT'.row
    have hR' := hT'.row.byte HT.out.inv.len hgG hi8 sv
    rw [← HSE.out, HWN.out, HSE.out] at hR'
    have hB' := HX2.out.keep hb
    exact ⟨hT'.top.kept (Below.heap_setCell _ _ _ _ (by simpa using hne)), hR', Moves.trans (Moves.of_below hb p b) (Moves.set (.inr rfl)) (.inl rfl), hB'.kept (Below.heap_setCell _ _ _ _ (by simpa using hB'.ne hT'.row))⟩
  have HIN : Hid (Inv x G (z.set (8 * g + i) (sv, k, v)) ∧ (ents (z.set (8 * g + i) (sv, k, v))).Perm (ents z ++ [(k, v)]) ∧ dels (z.set (8 * g + i) (sv, k, v)) ≤ dels z) := by
    obtain ⟨j, hj, hjg, hi8, hfr, hfi, hno⟩ := HSP.out
    have := HT.out.inv.lay v HKN.out (j := j) (i := i) hj hi8 (by rw [HEh.out, hjg]; exact hfr) (by rw [HEh.out]; exact hno) (by
      rw [HEh.out, hjg]
      rcases HR.out with h1 | ⟨g', i', h1, h2⟩
      · exact .inr h1
      · obtain ⟨rfl, rfl⟩ := HSP.out.one h1
        exact .inl h2)
    rw [HEh.out, hjg, HSE.out] at this
    exact this
  have HLEN : Hid (z.length = 8 * G) := HT.out.inv.len
  have HLO : Hid (B ≤ p ∧ B ≤ b ∧ x < 18446744073709551616 ∧ ∀ e ∈ ents (z.set (8 * g + i) (sv, k, v)), e.1.size ≤ maxLen) := by
    refine ⟨HT.out.low, HT.out.lowb, HT.out.seed, fun e he => ?_⟩
    rcases List.mem_append.1 (HIN.out.2.1.mem_iff.1 he) with he | he
    · exact HT.out.siz e he
    · rw [List.mem_singleton.1 he]; exact HKS.out
  clear HKS HS HX1 HB1 HT1 HSP HF HKN HR HEh HT HSV
  go_upto_region 2 with fail
  go_cut [] from 14 to 32 (fun wx => Hid (After w2 wx p b x G (z.set (8 * g + i) (sv, (cel z (8 * g + i)).2)) q k v))
  case first =>
    go_region_with (first
      | (go_at_call 195; refine (H7 _).mono ?_; rintro e wx ⟨rfl, rfl⟩)
      | (go_at_call 186; refine (HSet _).mono ?_; rintro e wx ⟨rfl, hb⟩; replace HD := step_below HD hb; obtain ⟨hc3, hw3, hf3⟩ := HWD.out wx HD.out; clear hb))
    all_goals (go_wp2; go_meet; exact HAft.out _ HD.out)
  case rest =>
  clear H7 HSet HWD hc2 hw2 hf2 HAft HD HX2 HT2
  obtain ⟨zz, hzz⟩ : ∃ zz, z.set (8 * g + i) (sv, (cel z (8 * g + i)).2) = zz := ⟨_, rfl⟩
  rw [hzz] at hcut
  have HC : Hid (After w2 wc p b x G zz q k v) := hcut
  have HRow : Hid (∀ n, Row (((wc.setCell ⟨b, g * 17 + 1 + i * 2, none⟩ (.string k)).setCell ⟨b, g * 17 + 1 + i * 2 + 1, none⟩ (.int .u64 v)).drewN n) b G (z.set (8 * g + i) (sv, k, v))) := by
    intro n
    have hl : zz.length = 8 * G := by rw [← hzz, List.length_set]; exact HLEN.out
    have := HC.out.row.slot hl hgG hi8 k v
    rw [← hzz, cel_set z (by rw [HLEN.out]; omega), List.set_set] at this
    exact this.kept (by rw [heap_drewN])
  have HTop : Hid (∀ n, Top (((wc.setCell ⟨b, g * 17 + 1 + i * 2, none⟩ (.string k)).setCell ⟨b, g * 17 + 1 + i * 2 + 1, none⟩ (.int .u64 v)).drewN n) p b x G) := by
    intro n
    have hne := HC.out.top.ne HC.out.row
    refine HC.out.top.kept ?_
    rw [heap_drewN, Below.heap_setCell _ _ _ _ (by simpa using hne), Below.heap_setCell _ _ _ _ (by simpa using hne)]
  have HMov : Hid (∀ n, Moves w (((wc.setCell ⟨b, g * 17 + 1 + i * 2, none⟩ (.string k)).setCell ⟨b, g * 17 + 1 + i * 2 + 1, none⟩ (.int .u64 v)).drewN n) p b) := by
    intro n
    have h1 : Moves w wc p b := (Moves.of_below HB2.out p b).trans HC.out.mov (.inl rfl)
    have h2 : Moves w _ p b := (h1.trans (Moves.set (o := g * 17 + 1 + i * 2) (v := .string k) (.inr rfl)) (.inl rfl)).trans (Moves.set (o := g * 17 + 1 + i * 2 + 1) (v := .int .u64 v) (.inr rfl)) (.inl rfl)
    exact h2.trans (Moves.of_below (below_drewN _ n) p b) (.inl rfl)
  have hc := HC.out.top.groups
  have hk := HC.out.box.key
  have hv := HC.out.box.vl
  have hck := HC.out.row.key hgG hi8
  have hcv := HC.out.row.vl hgG hi8
  have hfk := HC.out.row.frozen (g * 17 + 1 + i * 2)
  have hfv := HC.out.row.frozen (g * 17 + 1 + i * 2 + 1)
  generalize (cel zz (8 * g + i)).2.1 = k0 at hck
  generalize (cel zz (8 * g + i)).2.2 = v0 at hcv
  clear hcut hzz
  go_wp2
  go_region
  all_goals (go_end0; exact ⟨rfl, HMov.out 1, _, ⟨HTop.out 1, HRow.out 1, HLO.out.1, HLO.out.2.1, HIN.out.1, HLO.out.2.2.1, HLO.out.2.2.2⟩, HIN.out.2⟩)
end Go.Proofs.YtnajhjmdpaeelaaGreatDoor.Zs.Dk
