/-
  What only reads a table: Len, Marks, full, Words, Keys.
-/
import Derived.Test.YtejnmikbbnckeaaRows8
namespace Go.Proofs.Ytejnmikbbnckeaa
open Go.RowKit Go.PlainAid

theorem range_count {α : Type} (p : α → Bool) (d : α) (l : List α) : ((List.range l.length).filter (fun i => p (l.getD i d))).length = (l.filter p).length := by
  induction l with
  | nil => rfl
  | cons a l ih =>
    rw [List.length_cons, List.range_succ_eq_map, List.filter_cons, List.filter_map, List.filter_cons]
    have e : (fun i => p ((a :: l).getD i d)) ∘ Nat.succ = fun i => p (l.getD i d) := rfl
    rw [e, List.getD_cons_zero]
    split
    · rw [List.length_cons, List.length_cons, List.length_map, ih]
    · rw [List.length_map, ih]
/-- The slots of a group. -/
def grp (z : List Cl) (g : Nat) : List Cl := (z.drop (8 * g)).take 8
theorem take_grp (z : List Cl) (g : Nat) : z.take (8 * (g + 1)) = z.take (8 * g) ++ grp z g := by
  rw [show 8 * (g + 1) = 8 * g + 8 by omega, List.take_add]; rfl
theorem slots_count {z : List Cl} {G g : Nat} (hz : z.length = 8 * G) (hg : g < G) (p : Nat → Bool) : (slots (fun i => p ((wrd z g).getD i 0)) 8).length = ((grp z g).filter (fun c => p c.1)).length := by
  have hl : (grp z g).length = 8 := by unfold grp; rw [List.length_take, List.length_drop]; omega
  rw [← range_count (fun c : Cl => p c.1) noC (grp z g), hl]
  unfold slots
  congr 1
  refine List.filter_congr fun i hi => ?_
  rw [List.mem_range] at hi
  rw [wrd_get hz hg hi, cel, List.getD_eq_getElem?_getD, List.getD_eq_getElem?_getD, grp, List.getElem?_take, if_pos hi, List.getElem?_drop]
theorem count_full {z : List Cl} {G g : Nat} (hz : z.length = 8 * G) (hg : g < G) : (slots (ful (wrd z g)) 8).length = (ents (grp z g)).length := by
  have := slots_count hz hg (fun b => !decide (128 ≤ b))
  unfold ents
  rw [List.length_map]
  refine Eq.trans this (congrArg List.length (List.filter_congr fun c _ => ?_))
  unfold full
  by_cases h : c.1 < 128
  · rw [decide_eq_true h, decide_eq_false (by omega)]; rfl
  · rw [decide_eq_false h, decide_eq_true (by omega)]; rfl
theorem count_gone {z : List Cl} {G g : Nat} (hz : z.length = 8 * G) (hg : g < G) : (slots (has (wrd z g) 254) 8).length = dels (grp z g) := slots_count hz hg (fun b => decide (b = 254))
theorem len_take {z : List Cl} {G g : Nat} (hz : z.length = 8 * G) (hg : g < G) : (ents (z.take (8 * (g + 1)))).length = (ents (z.take (8 * g))).length + (slots (ful (wrd z g)) 8).length := by
  rw [take_grp, ents_append, List.length_append, count_full hz hg]
theorem dels_take {z : List Cl} {G g : Nat} (hz : z.length = 8 * G) (hg : g < G) : dels (z.take (8 * (g + 1))) = dels (z.take (8 * g)) + (slots (has (wrd z g) 254) 8).length := by
  rw [take_grp, dels_append, count_gone hz hg]
theorem dels_le (z : List Cl) : dels z ≤ z.length := List.length_filter_le _ _

theorem Len_any (B p b x G : Nat) (z : List Cl) (w : World) (hT : Tab w B p b x G z) : Calls Try.prog 66 #[ptr p] w fun e w' => e = .returned (.int .i64 ((ents z).length : Nat)) ∧ w' = w := by
  have hc := hT.top.groups
  have hG := hT.inv.grp.le
  have HT : Hid (Tab w B p b x G z) := hT
  have HL : Hid (z.length = 8 * G) := hT.inv.len
  clear hT
  go_enter Try.func66, Try.ntmps66
  go_wp2
  go_loopg [3, 4, 10] G (fun q nv iv jv wr => w = wr ∧ ∃ g : Nat, g + q = G ∧ jv = .int .i64 g ∧ nv = .int .i64 ((ents (z.take (8 * g))).length : Nat))
  case atStart => exact ⟨rfl, 0, by omega, rfl, rfl⟩
  case round =>
    obtain ⟨rfl, g, hg, rfl, rfl⟩ := hrel
    by_cases h8 : (g : Int) < G
    · have hgG : g < G := by omega
      have hw := HT.out.row.word hgG
      have HC := fun w => Count_any (HT.out.inv.ok hgG) w
      have HN : Hid ((ents (z.take (8 * (g + 1)))).length = (ents (z.take (8 * g))).length + (slots (ful (wrd z g)) 8).length) := len_take HL.out hgG
      have hl1 := slots_len (ful (wrd z g)) 8
      have hl2 : (ents (z.take (8 * g))).length ≤ 128 := by
        have := ents_len_le (z.take (8 * g))
        rw [List.length_take] at this
        have := HL.out
        omega
      generalize (ents (z.take (8 * g))).length = n at HN hl2 ⊢
      generalize (slots (ful (wrd z g)) 8).length = m at HN hl1 HC
      generalize val (wrd z g) = wv at hw HC
      go_wp2_with fail
      refine (HC _).mono ?_
      rintro e w ⟨rfl, rfl⟩
      go_wp2
      go_roundg (gk - 1)
      case measure => omega
      case rel => exact ⟨rfl, g + 1, by omega, by go_num, by rw [HN.out]; go_num⟩
    · have HE : Hid (z.take (8 * g) = z) := by show _ = _; rw [List.take_of_length_le (by have := HL.out; omega)]
      rw [HE.out]
      go_wp2
      go_ret
      exact ⟨rfl, rfl⟩

theorem Marks_any (B p b x G : Nat) (z : List Cl) (w : World) (hT : Tab w B p b x G z) : Calls Try.prog 86 #[ptr p] w fun e w' => e = .returned (.int .i64 (dels z : Nat)) ∧ Below w.heap.size w w' := by
  have hc := hT.top.groups
  have hG := hT.inv.grp.le
  have HT : Hid (Tab w B p b x G z) := hT
  have HL : Hid (z.length = 8 * G) := hT.inv.len
  have HB : Hid (Below w.heap.size w w) := Below.refl _ _
  clear hT
  go_enter Try.func86, Try.ntmps86
  go_wp2
  clear hc
  go_loopg [3, 4, 10] G (fun q nv iv jv wr => ∃ g : Nat, g + q = G ∧ jv = .int .i64 g ∧ nv = .int .i64 (dels (z.take (8 * g)) : Nat) ∧ Hid (Below w.heap.size w wr))
  case atStart => exact ⟨0, by omega, rfl, rfl, HB⟩
  case round =>
    clear HB
    obtain ⟨g, hg, rfl, rfl, HB⟩ := hrel
    have HTr : Hid (Tab wr B p b x G z) := HT.out.keep HB.out
    by_cases h8 : (g : Int) < G
    · have hgG : g < G := by omega
      have hc := HTr.out.top.groups
      have hw := HTr.out.row.word hgG
      have HC := fun w => Match_any (HT.out.inv.ok hgG) 254 (by decide) w
      have HN : Hid (dels (z.take (8 * (g + 1))) = dels (z.take (8 * g)) + (slots (has (wrd z g) 254) 8).length) := dels_take HL.out hgG
      have hl1 := slots_len (has (wrd z g) 254) 8
      have hl2 : dels (z.take (8 * g)) ≤ 128 := by
        have := dels_le (z.take (8 * g))
        rw [List.length_take] at this
        have := HL.out
        omega
      generalize dels (z.take (8 * g)) = n at HN hl2 ⊢
      generalize slots (has (wrd z g) 254) 8 = ms at HN hl1 HC
      generalize val (wrd z g) = wv at hw HC
      go_wp2_with fail
      refine (HC _).mono ?_
      rintro e w1 ⟨hb, a1, n1, c1, rfl, hO⟩
      have H1 := step_below HB hb
      have hn1 : ms.length = n1 := hO.len
      have HN1 : Hid (ms.length = n1) := hn1
      rw [hn1] at hl1
      clear hb hO hn1
      go_wp2
      go_roundg (gk - 1)
      case measure => omega
      case rel => exact ⟨g + 1, by omega, by go_num, by rw [HN.out, HN1.out]; go_num, H1⟩
    · have HE : Hid (z.take (8 * g) = z) := by show _ = _; rw [List.take_of_length_le (by have := HL.out; omega)]
      rw [HE.out]
      go_wp2
      go_ret
      exact ⟨rfl, HB.out⟩

set_option maxRecDepth 100000 in
set_option maxHeartbeats 4000000 in
theorem full_any (B p b x G : Nat) (z : List Cl) (w : World) (hT : Tab w B p b x G z) : Calls Try.prog 89 #[ptr p] w fun e w' => Below w.heap.size w w' ∧ ∃ a n c, e = .returned (.slice a n c) ∧ OwnE w' w.heap.size a n c (ents z) := by
  have hc := hT.top.groups
  have hG := hT.inv.grp.le
  have HT : Hid (Tab w B p b x G z) := hT
  have HL : Hid (z.length = 8 * G) := hT.inv.len
  have HB : Hid (Below w.heap.size w w) := Below.refl _ _
  have HO : Hid (OwnE w w.heap.size none 0 0 (ents (z.take (8 * 0)))) := OwnR.nil _ _ _ _
  clear hT
  go_enter Try.func89, Try.ntmps89
  go_wp2
  clear hc
  go_loopg [3, 4, 5, 11, 14] G (fun q sv iv ev jv kv wr => ∃ (g : Nat) (a : Option Addr) (n c : Nat), g + q = G ∧ jv = .int .i64 g ∧ sv = .slice a n c ∧ Hid (OwnE wr w.heap.size a n c (ents (z.take (8 * g)))) ∧ Hid (Below w.heap.size w wr))
  case atStart => exact ⟨0, none, 0, 0, by omega, rfl, rfl, HO, HB⟩
  case round =>
    clear HB HO
    obtain ⟨g, a, n, c, hg, rfl, rfl, HO, HB⟩ := hrel
    obtain ⟨ga, hga⟩ : ∃ ga, ga = gk := ⟨_, rfl⟩
    subst hga
    obtain ⟨wa, hwa⟩ : ∃ wa, wa = wr := ⟨_, rfl⟩
    subst hwa
    have HK : Hid (g + ga = G) := hg
    by_cases h8 : (g : Int) < G
    · have hgG : g < G := by omega
      clear hg
      go_wp2
      go_loopg [3, 5, 14] 8 (fun q sv iv jv wr => ∃ (i : Nat) (a : Option Addr) (n c : Nat), i + q = 8 ∧ jv = .int .i64 i ∧ sv = .slice a n c ∧ Hid (OwnE wr w.heap.size a n c (ents (z.take (8 * g + i)))) ∧ Hid (Below w.heap.size w wr))
      case atStart => exact ⟨0, a, n, c, by omega, rfl, rfl, HO, HB⟩
      case round =>
        clear HB HO
        obtain ⟨i, a, n, c, hi, rfl, rfl, HO, HB⟩ := hrel
        have HTr : Hid (Tab wr B p b x G z) := HT.out.keep HB.out
        by_cases hi8 : (i : Int) < 8
        · have hi8' : i < 8 := by omega
          have hc := HTr.out.top.groups
          have hw := HTr.out.row.word hgG
          have hk := HTr.out.row.key hgG hi8'
          have hv := HTr.out.row.vl hgG hi8'
          have HA := fun w => At_in (HT.out.inv.ok hgG) i hi8' w
          rw [wrd_get HL.out hgG hi8'] at HA
          have hq : 8 * g + i < z.length := by have := HL.out; omega
          have HS : Hid (z.take (8 * g + (i + 1)) = z.take (8 * g + i) ++ [cel z (8 * g + i)]) := by show _ = _; rw [cel_at z hq, ← Nat.add_assoc, List.take_add_one, List.getElem?_eq_getElem hq]; rfl
          have hlt := HT.out.inv.byt' _ (cel_mem z hq)
          have hsz := HB.out.size
          have HN : Hid (n + 1 ≤ 1000000) := by
            have h1 := OwnE.len HO.out
            have h2 := ents_len_le (z.take (8 * g + i))
            rw [List.length_take] at h2
            have := HL.out
            show _ ≤ _
            omega
          generalize val (wrd z g) = wv at hw HA
          generalize cel z (8 * g + i) = cc at hk hv HA HS hlt
          obtain ⟨bt, k, v⟩ := cc
          simp only [] at hk hv HA hlt
          clear hq hi8'
          by_cases hf : bt < 128
          · have HE : Hid (ents (z.take (8 * g + (i + 1))) = ents (z.take (8 * g + i)) ++ [(k, v)]) := by show _ = _; rw [HS.out, ents_append, ents_cons_yes hf]; rfl
            have hfz : (bt : Int) < 128 := by omega
            go_wp2_with (first | (go_at_call 85; refine (HA _).mono ?_; rintro e wr ⟨rfl, rfl⟩) | (at_builtin; refine append_e rfl (.tmp 28) (.tmp 39) rfl w.heap.size rfl (OwnR.keep HO.out (alloc_below wr _)) rfl (by simp; rfl) (by simp; rfl) HN.out (Nat.le_trans hsz (alloc_below wr _).size) ?_; intro a3 n3 c3 w3 hn3 HO3 HG3 HW3; have HB3 : Hid (Below w.heap.size w w3) := (HB.out.trans ((alloc_below wr _).mono hsz)).trans ((OwnR.keep HO.out (alloc_below wr _)).below HG3.out (Nat.le_trans hsz (alloc_below wr _).size))))
            go_roundg (gk - 1)
            case measure => omega
            case rel => exact ⟨i + 1, _, _, _, by omega, by go_num, rfl, by rw [HE.out, ← hn3]; exact HO3, HB3⟩
          · have HE : Hid (ents (z.take (8 * g + (i + 1))) = ents (z.take (8 * g + i))) := by show _ = _; rw [HS.out, ents_append, ents_cons_no (by omega : 128 ≤ bt)]; exact List.append_nil _
            have hfz : ¬ (bt : Int) < 128 := by omega
            go_wp2_with fail
            refine (HA _).mono ?_
            rintro e wr ⟨rfl, rfl⟩
            go_wp2
            go_roundg (gk - 1)
            case measure => omega
            case rel => exact ⟨i + 1, _, _, _, by omega, by go_num, rfl, by rw [HE.out]; exact HO, HB⟩
        · have HE : Hid (8 * (g + 1) = 8 * g + i) := by show _ = _; omega
          go_wp2
          go_roundg (ga - 1)
          case measure => have := HK.out; omega
          case rel => exact ⟨g + 1, _, _, _, by have := HK.out; omega, by go_num, rfl, by rw [HE.out]; exact HO, HB⟩
    · have HE : Hid (z.take (8 * g) = z) := by show _ = _; rw [List.take_of_length_le (by have := HL.out; omega)]
      rw [HE.out] at HO
      go_wp2
      go_ret
      exact ⟨HB.out, _, _, _, rfl, HO.out⟩

theorem alloc2_below (w : World) (o1 o2 : Obj) : Below w.heap.size w ((w.alloc o1).alloc o2) := (alloc_below w o1).trans ((alloc_below _ o2).mono (alloc_below w o1).size)
theorem take_snoc {α : Type} (l : List α) (d : α) (k : Nat) (h : k < l.length) : l.take (k + 1) = l.take k ++ [l.getD k d] := by
  rw [List.take_add_one, List.getD_eq_getElem?_getD, List.getElem?_eq_getElem h]; rfl

set_option maxRecDepth 100000 in
set_option maxHeartbeats 4000000 in
theorem Keys_any (B p b x G : Nat) (z : List Cl) (w : World) (hT : Tab w B p b x G z) : Calls Try.prog 72 #[ptr p] w fun e w' => Below w.heap.size w w' ∧ ∃ a n c, e = .returned (.slice a n c) ∧ OwnS w' w.heap.size a n c ((ents z).map (·.1)) := by
  have HF := full_any B p b x G z w hT
  have HN : Hid ((ents z).length ≤ 200) := by
    have h1 := ents_len_le z
    have h2 := hT.inv.len
    have h3 := hT.inv.grp.le
    show _ ≤ _
    omega
  clear hT
  generalize ents z = es at HF HN ⊢
  go_enter Try.func72, Try.ntmps72
  go_wp2_with fail
  refine HF.mono ?_
  rintro e w1 ⟨hb, ae, ne, ce, rfl, hE⟩
  have HE : Hid (OwnE w1 w.heap.size ae ne ce es) := hE
  have HL : Hid (es.length = ne) := OwnE.len hE
  have HB1 : Hid (Below w.heap.size w w1) := hb
  have hne : ne ≤ 200 := by have := HN.out; have := HL.out; omega
  have HO : Hid (OwnS w1 w1.heap.size none 0 0 ((es.take 0).map (·.1))) := OwnR.nil _ _ _ _
  clear hE hb
  go_wp2
  go_loopg [3, 5, 9] ne (fun q sv iv jv wr => ∃ (i : Nat) (a : Option Addr) (n c : Nat), i + q = ne ∧ jv = .int .i64 i ∧ sv = .slice a n c ∧ Hid (OwnS wr w1.heap.size a n c ((es.take i).map (·.1))) ∧ Hid (Below w1.heap.size w1 wr))
  case atStart => exact ⟨0, none, 0, 0, by omega, rfl, rfl, HO, Below.refl _ _⟩
  case round =>
    clear HO
    obtain ⟨i, a, n, c, hi, rfl, rfl, HO, HB⟩ := hrel
    by_cases h8 : (i : Int) < ne
    · obtain ⟨g, ha, hk, hv⟩ := OwnE.cell (OwnR.keep HE.out HB.out) (j := i) (by omega)
      subst ha
      have HS : Hid (es.take (i + 1) = es.take i ++ [es.getD i (⟨#[]⟩, 0)]) := take_snoc es _ i (by have := HL.out; omega)
      generalize es.getD i (⟨#[]⟩, 0) = ev at hk hv HS
      obtain ⟨k, v⟩ := ev
      simp only [] at hk hv
      have HE1 : Hid ((es.take (i + 1)).map (·.1) = (es.take i).map (·.1) ++ [k]) := by show _ = _; rw [HS.out, List.map_append]; rfl
      have hsz := HB.out.size
      have HN1 : Hid (n + 1 ≤ 1000000) := by
        have h1 := OwnS.len HO.out
        rw [List.length_map, List.length_take] at h1
        show _ ≤ _
        omega
      go_wp2_with (at_builtin; refine append_s rfl (.tmp 13) (.tmp 16) rfl w1.heap.size rfl (OwnR.keep HO.out (alloc2_below wr _ _)) rfl (by simp; rfl) HN1.out (Nat.le_trans hsz (alloc2_below wr _ _).size) ?_; intro a3 n3 c3 w3 hn3 HO3 HG3 HW3; have HB3 : Hid (Below w1.heap.size w1 w3) := (HB.out.trans ((alloc2_below wr _ _).mono hsz)).trans ((OwnR.keep HO.out (alloc2_below wr _ _)).below HG3.out (Nat.le_trans hsz (alloc2_below wr _ _).size)))
      go_roundg (gk - 1)
      case measure => omega
      case rel => exact ⟨i + 1, _, _, _, by omega, by go_num, rfl, by rw [HE1.out, ← hn3]; exact HO3, HB3⟩
    · have HE : Hid (es.take i = es) := by show _ = _; rw [List.take_of_length_le (by have := HL.out; omega)]
      rw [HE.out] at HO
      go_wp2
      go_ret
      exact ⟨HB1.out.trans (HB.out.mono HB1.out.size), _, _, _, rfl, HO.out.low HB1.out.size⟩
end Go.Proofs.Ytejnmikbbnckeaa
