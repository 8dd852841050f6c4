/- Texts that the others stand on. -/
import Derived.Test.YtnajhjmdpaeelaaGreatDoorG2
import Derived.Deep.RegionHeld3
import Derived.Maps.AppendAt
namespace Go.Proofs.YtnajhjmdpaeelaaGreatDoor.Dk
open Go.RowKit Go.PlainAid
/-- A slot: its byte, its key, what it has. -/
abbrev Cl := Nat × ByteArray × (Option Addr)
/-- What is there: a key and what it has. -/
abbrev En := ByteArray × (Option Addr)
abbrev noC : Cl := (128, ⟨#[]⟩, none)
def cel (z : List Cl) (q : Nat) : Cl := z.getD q noC
/-- The bytes of a group. -/
def wrd (z : List Cl) (g : Nat) : List Nat := ((z.drop (8 * g)).take 8).map (·.1)
/-- Is a slot full? -/
def full (c : Cl) : Bool := decide (c.1 < 128)
def gone (c : Cl) : Bool := decide (c.1 = 254)
/-- What the full slots have. -/
def ents (z : List Cl) : List En := (z.filter full).map (·.2)
/-- How many are Deleted. -/
def dels (z : List Cl) : Nat := (z.filter gone).length
theorem cel_at (z : List Cl) {q : Nat} (h : q < z.length) : cel z q = z[q] := by
  unfold cel; rw [List.getD_eq_getElem?_getD, List.getElem?_eq_getElem h]; rfl
theorem cel_set (z : List Cl) {q : Nat} (h : q < z.length) (c : Cl) : cel (z.set q c) q = c := by
  unfold cel; rw [List.getD_eq_getElem?_getD, List.getElem?_set_self h]; rfl
theorem cel_set_ne (z : List Cl) {q r : Nat} (h : q ≠ r) (c : Cl) : cel (z.set q c) r = cel z r := by
  unfold cel; rw [List.getD_eq_getElem?_getD, List.getElem?_set_ne h, List.getD_eq_getElem?_getD]
theorem cel_mem (z : List Cl) {q : Nat} (h : q < z.length) : cel z q ∈ z := by rw [cel_at z h]; exact List.getElem_mem h
theorem mem_cel {z : List Cl} {c : Cl} (h : c ∈ z) : ∃ q, q < z.length ∧ cel z q = c := by
  obtain ⟨q, hq, e⟩ := List.getElem_of_mem h
  exact ⟨q, hq, by rw [cel_at z hq]; exact e⟩
theorem wrd_get? (z : List Cl) (g i : Nat) : (wrd z g)[i]? = if i < 8 then z[8 * g + i]?.map (·.1) else none := by
  unfold wrd
  rw [List.getElem?_map, List.getElem?_take, List.getElem?_drop]
  split <;> rfl
theorem wrd_len {z : List Cl} {G g : Nat} (hz : z.length = 8 * G) (hg : g < G) : (wrd z g).length = 8 := by
  unfold wrd; rw [List.length_map, List.length_take, List.length_drop]; omega
theorem wrd_get {z : List Cl} {G g i : Nat} (hz : z.length = 8 * G) (hg : g < G) (hi : i < 8) : (wrd z g).getD i 0 = (cel z (8 * g + i)).1 := by
  rw [List.getD_eq_getElem?_getD, wrd_get?, if_pos hi, cel_at z (q := 8 * g + i) (by omega), List.getElem?_eq_getElem (by omega)]
  rfl
theorem wrd_ext {z : List Cl} {G g : Nat} (hz : z.length = 8 * G) (hg : g < G) (l : List Nat) (hl : l.length = 8) (h : ∀ i, i < 8 → (cel z (8 * g + i)).1 = l.getD i 0) : wrd z g = l := by
  apply List.ext_getElem?
  intro i
  by_cases hi : i < 8
  · rw [wrd_get?, if_pos hi, List.getElem?_eq_getElem (by omega), List.getElem?_eq_getElem (by omega)]
    have := h i hi
    rw [cel_at z (by omega), List.getD_eq_getElem?_getD, List.getElem?_eq_getElem (by omega)] at this
    simpa using this
  · rw [List.getElem?_eq_none (by rw [wrd_len hz hg]; omega), List.getElem?_eq_none (by omega)]
theorem wrd_set (z : List Cl) {g i : Nat} (hi : i < 8) (c : Cl) (h : 8 * g + i < z.length) : wrd (z.set (8 * g + i) c) g = (wrd z g).set i c.1 := by
  apply List.ext_getElem?
  intro j
  rw [wrd_get?]
  by_cases hij : i = j
  · subst hij
    rw [if_pos hi, List.getElem?_set_self h, List.getElem?_set_self]
    · rfl
    · unfold wrd; rw [List.length_map, List.length_take, List.length_drop]; omega
  · rw [List.getElem?_set_ne (by omega), List.getElem?_set_ne hij, wrd_get?]
theorem wrd_set_ne (z : List Cl) {g g' i : Nat} (hi : i < 8) (c : Cl) (h : g ≠ g') : wrd (z.set (8 * g + i) c) g' = wrd z g' := by
  apply List.ext_getElem?
  intro j
  rw [wrd_get?, wrd_get?]
  split
  · rw [List.getElem?_set_ne (by omega)]
  · rfl
theorem ents_append (a b : List Cl) : ents (a ++ b) = ents a ++ ents b := by unfold ents; rw [List.filter_append, List.map_append]
theorem dels_append (a b : List Cl) : dels (a ++ b) = dels a + dels b := by unfold dels; rw [List.filter_append, List.length_append]
theorem ents_cons_yes {c : Cl} (h : c.1 < 128) (l : List Cl) : ents (c :: l) = c.2 :: ents l := by unfold ents full; rw [List.filter_cons_of_pos (by simpa using h)]; rfl
theorem ents_cons_no {c : Cl} (h : 128 ≤ c.1) (l : List Cl) : ents (c :: l) = ents l := by unfold ents full; rw [List.filter_cons_of_neg (by simpa using h)]
theorem dels_cons_yes {c : Cl} (h : c.1 = 254) (l : List Cl) : dels (c :: l) = dels l + 1 := by unfold dels gone; rw [List.filter_cons_of_pos (by simpa using h)]; rfl
theorem dels_cons_no {c : Cl} (h : c.1 ≠ 254) (l : List Cl) : dels (c :: l) = dels l := by unfold dels gone; rw [List.filter_cons_of_neg (by simpa using h)]
theorem set_parts (z : List Cl) {q : Nat} (h : q < z.length) (c : Cl) : z.set q c = z.take q ++ c :: z.drop (q + 1) := by
  rw [List.set_eq_take_append_cons_drop, if_pos h]
theorem parts (z : List Cl) {q : Nat} (h : q < z.length) : z = z.take q ++ cel z q :: z.drop (q + 1) := by
  rw [cel_at z h, ← List.drop_eq_getElem_cons h, List.take_append_drop]
theorem mem_ents {z : List Cl} {e : En} : e ∈ ents z ↔ ∃ q, q < z.length ∧ (cel z q).1 < 128 ∧ (cel z q).2 = e := by
  unfold ents
  rw [List.mem_map]
  constructor
  · rintro ⟨c, hc, rfl⟩
    rw [List.mem_filter] at hc
    obtain ⟨q, hq, rfl⟩ := mem_cel hc.1
    exact ⟨q, hq, by simpa [full] using hc.2, rfl⟩
  · rintro ⟨q, hq, h1, rfl⟩
    exact ⟨cel z q, List.mem_filter.2 ⟨cel_mem z hq, by simpa [full] using h1⟩, rfl⟩
theorem ents_len_le (z : List Cl) : (ents z).length ≤ z.length := by unfold ents; rw [List.length_map]; exact List.length_filter_le _ _
/-- Of a slot that is free a full one. -/
theorem ents_lay {z : List Cl} {q : Nat} (h : q < z.length) (hf : 128 ≤ (cel z q).1) (c : Cl) (hc : c.1 < 128) : (ents (z.set q c)).Perm (ents z ++ [c.2]) := by
  conv => rhs; rw [parts z h]
  rw [set_parts z h, ents_append, ents_cons_yes hc, ents_append, ents_cons_no hf]
  refine List.Perm.trans List.perm_middle ?_
  exact (List.perm_append_singleton _ _).symm
/-- Of a full one a free one. -/
theorem ents_take {z : List Cl} {q : Nat} (h : q < z.length) (hf : (cel z q).1 < 128) (c : Cl) (hc : 128 ≤ c.1) : (ents z).Perm ((cel z q).2 :: ents (z.set q c)) := by
  conv => lhs; rw [parts z h]
  rw [set_parts z h, ents_append, ents_cons_yes hf, ents_append, ents_cons_no hc]
  exact List.perm_middle
/-- Of a full one another one. -/
theorem ents_turn {z : List Cl} {q : Nat} (h : q < z.length) (hf : (cel z q).1 < 128) (c : Cl) (hc : c.1 < 128) : ∃ a b, ents z = a ++ (cel z q).2 :: b ∧ ents (z.set q c) = a ++ c.2 :: b := by
  refine ⟨ents (z.take q), ents (z.drop (q + 1)), ?_, ?_⟩
  · conv => lhs; rw [parts z h]
    rw [ents_append, ents_cons_yes hf]
  · rw [set_parts z h, ents_append, ents_cons_yes hc]
theorem dels_set {z : List Cl} {q : Nat} (h : q < z.length) (c : Cl) : dels (z.set q c) + (if (cel z q).1 = 254 then 1 else 0) = dels z + (if c.1 = 254 then 1 else 0) := by
  conv => rhs; rw [parts z h]
  rw [set_parts z h, dels_append, dels_append]
  split
  · split
    · rw [dels_cons_yes (by assumption), dels_cons_yes (by assumption)]
    · rw [dels_cons_no (by assumption), dels_cons_yes (by assumption)]; omega
  · split
    · rw [dels_cons_yes (by assumption), dels_cons_no (by assumption)]; omega
    · rw [dels_cons_no (by assumption), dels_cons_no (by assumption)]
theorem all_len {z : List Cl} (h : ∀ c ∈ z, c.1 < 128 ∨ c.1 = 254) : (ents z).length + dels z = z.length := by
  induction z with
  | nil => rfl
  | cons c z ih =>
    have := ih (fun d hd => h d (by simp [hd]))
    rcases h c (by simp) with h1 | h1
    · rw [ents_cons_yes h1, dels_cons_no (by omega), List.length_cons, List.length_cons]; omega
    · rw [ents_cons_no (by omega), dels_cons_yes h1, List.length_cons]; omega
/-- A key's hash; its seven highest bits; the group that is probed as the j-th. -/
def hsh (x : Nat) (k : ByteArray) : Nat := ofL x (lst k)
def sev (h : Nat) : Nat := h / 144115188075855872
def gAt (G h j : Nat) : Nat := (h / 65536 + j) % G
/-- Has a group an Empty slot? -/
def hasE (z : List Cl) (g : Nat) : Bool := some? (has (wrd z g) 128) 8
def isG (G : Nat) : Prop := G = 1 ∨ G = 2 ∨ G = 4 ∨ G = 8 ∨ G = 16
theorem isG.pos {G : Nat} (h : isG G) : 0 < G := by rcases h with h | h | h | h | h <;> omega
theorem isG.le {G : Nat} (h : isG G) : G ≤ 16 := by rcases h with h | h | h | h | h <;> omega
theorem isG.two {G : Nat} (h : isG G) (hG : G < 16) : isG (2 * G) := by rcases h with h | h | h | h | h <;> unfold isG <;> omega
theorem hsh_lt (x : Nat) (k : ByteArray) : hsh x k < 18446744073709551616 := ofL_lt _ _
theorem sev_lt (x : Nat) (k : ByteArray) : sev (hsh x k) < 128 := by unfold sev; have := hsh_lt x k; omega
theorem gAt_lt {G : Nat} (hG : 0 < G) (h j : Nat) : gAt G h j < G := Nat.mod_lt _ hG
theorem gAt_next {G : Nat} (h j : Nat) : (gAt G h j + 1) % G = gAt G h (j + 1) := by unfold gAt; rw [Nat.mod_add_mod, Nat.add_assoc]
theorem gAt_all {G : Nat} (h : Nat) {g : Nat} (hg : g < G) : ∃ j, j < G ∧ gAt G h j = g := by
  unfold gAt
  generalize h / 65536 = a
  have ha : a % G < G := Nat.mod_lt _ (by omega)
  by_cases hag : a % G ≤ g
  · refine ⟨g - a % G, by omega, ?_⟩
    rw [← Nat.mod_add_mod, show a % G + (g - a % G) = g by omega]
    exact Nat.mod_eq_of_lt hg
  · refine ⟨g + G - a % G, by omega, ?_⟩
    rw [← Nat.mod_add_mod, show a % G + (g + G - a % G) = g + G by omega, Nat.add_mod_right]
    exact Nat.mod_eq_of_lt hg
theorem hasE_iff {z : List Cl} {G g : Nat} (hz : z.length = 8 * G) (hg : g < G) : hasE z g = true ↔ ∃ i, i < 8 ∧ (cel z (8 * g + i)).1 = 128 := by
  unfold hasE some?
  rw [List.any_eq_true]
  constructor
  · rintro ⟨i, hi, h⟩
    rw [List.mem_range] at hi
    exact ⟨i, hi, by have := of_decide_eq_true h; rw [wrd_get hz hg hi] at this; exact this⟩
  · rintro ⟨i, hi, h⟩
    exact ⟨i, List.mem_range.2 hi, decide_eq_true (by rw [wrd_get hz hg hi]; exact h)⟩
/-- What holds of a table of G groups by the seed x. -/
structure Inv (x G : Nat) (z : List Cl) : Prop where
  grp : isG G
  len : z.length = 8 * G
  byt : ∀ q, q < 8 * G → (cel z q).1 < 128 ∨ (cel z q).1 = 128 ∨ (cel z q).1 = 254
  sev : ∀ q, q < 8 * G → (cel z q).1 < 128 → (cel z q).1 = sev (hsh x (cel z q).2.1)
  way : ∀ q, q < 8 * G → (cel z q).1 < 128 → ∃ d, d < G ∧ gAt G (hsh x (cel z q).2.1) d = q / 8 ∧ ∀ j, j < d → hasE z (gAt G (hsh x (cel z q).2.1) j) = false
  nod : ((ents z).map (·.1)).Nodup
  room : (ents z).length + dels z ≤ 7 * G
theorem Inv.byt' {x G : Nat} {z : List Cl} (h : Inv x G z) : ∀ c ∈ z, c.1 < 256 := by
  intro c hc
  obtain ⟨q, hq, rfl⟩ := mem_cel hc
  rcases h.byt q (by rw [← h.len]; exact hq) with h1 | h1 | h1 <;> omega
theorem wrd_ok {z : List Cl} {G g : Nat} (hz : z.length = 8 * G) (hb : ∀ c ∈ z, c.1 < 256) (hg : g < G) : Ok (wrd z g) := by
  refine ⟨wrd_len hz hg, fun b hb' => ?_⟩
  unfold wrd at hb'
  obtain ⟨c, hc, rfl⟩ := List.mem_map.1 hb'
  exact hb c (List.mem_of_mem_drop (List.mem_of_mem_take hc))
theorem Inv.ok {x G : Nat} {z : List Cl} (h : Inv x G z) {g : Nat} (hg : g < G) : Ok (wrd z g) := wrd_ok h.len h.byt' hg
theorem Inv.empty {x G : Nat} {z : List Cl} (h : Inv x G z) : ∃ q, q < 8 * G ∧ (cel z q).1 = 128 := by
  apply Classical.byContradiction
  intro hn
  have h1 : ∀ c ∈ z, c.1 < 128 ∨ c.1 = 254 := by
    intro c hc
    obtain ⟨q, hq, rfl⟩ := mem_cel hc
    rw [h.len] at hq
    rcases h.byt q hq with h1 | h1 | h1
    · exact .inl h1
    · exact absurd ⟨q, hq, h1⟩ hn
    · exact .inr h1
  have h2 := all_len h1
  have h3 := h.room
  have h4 := h.grp.pos
  rw [h.len] at h2
  omega
/-- A key's entry is told by its slot. -/
theorem Inv.val {x G : Nat} {z : List Cl} (h : Inv x G z) {k : ByteArray} {u v : (Option Addr)} (h1 : (k, u) ∈ ents z) (h2 : (k, v) ∈ ents z) : u = v := by
  have hn := h.nod
  generalize ents z = l at hn h1 h2
  induction l with
  | nil => simp at h1
  | cons e l ih =>
    rw [List.map_cons, List.nodup_cons] at hn
    rcases List.mem_cons.1 h1 with e1 | h1
    · rcases List.mem_cons.1 h2 with e2 | h2
      · rw [← e1] at e2; cases e2; rfl
      · exact absurd (List.mem_map.2 ⟨_, h2, by rw [← e1]⟩) hn.1
    · rcases List.mem_cons.1 h2 with e2 | h2
      · exact absurd (List.mem_map.2 ⟨_, h1, by rw [← e2]⟩) hn.1
      · exact ih hn.2 h1 h2
/-- A key that was not met up to the j-th group, which has an Empty slot, is not there. -/
theorem Inv.stop {x G : Nat} {z : List Cl} (h : Inv x G z) {k : ByteArray} {j : Nat} (hno : ∀ i, i ≤ j → ∀ s, s < 8 → (cel z (8 * gAt G (hsh x k) i + s)).1 < 128 → (cel z (8 * gAt G (hsh x k) i + s)).2.1 ≠ k)
    (hj : hasE z (gAt G (hsh x k) j) = true ∨ G ≤ j + 1) : k ∉ (ents z).map (·.1) := by
  intro hk
  obtain ⟨e, he, hek⟩ := List.mem_map.1 hk
  obtain ⟨q, hq, hf, rfl⟩ := mem_ents.1 he
  rw [h.len] at hq
  obtain ⟨d, hd, h1, h2⟩ := h.way q hq hf
  subst hek
  have hd' : d ≤ j := by
    rcases hj with hj | hj
    · apply Classical.byContradiction
      intro hh
      rw [h2 j (by omega)] at hj
      cases hj
    · omega
  have := hno d hd' (q % 8) (Nat.mod_lt _ (by decide))
  rw [h1, show 8 * (q / 8) + q % 8 = q by omega] at this
  exact this hf rfl
/-- A new key is laid into the first slot that is free on its way. -/
theorem Inv.lay {x G : Nat} {z : List Cl} (h : Inv x G z) {k : ByteArray} (v : (Option Addr)) (hk : k ∉ (ents z).map (·.1)) {j i : Nat} (hj : j < G) (hi : i < 8)
    (hf : 128 ≤ (cel z (8 * gAt G (hsh x k) j + i)).1) (hno : ∀ j', j' < j → ∀ s, s < 8 → (cel z (8 * gAt G (hsh x k) j' + s)).1 < 128)
    (hr : (cel z (8 * gAt G (hsh x k) j + i)).1 = 254 ∨ (ents z).length + dels z < 7 * G) :
    Inv x G (z.set (8 * gAt G (hsh x k) j + i) (YtnajhjmdpaeelaaGreatDoor.Dk.sev (hsh x k), k, v)) ∧ (ents (z.set (8 * gAt G (hsh x k) j + i) (YtnajhjmdpaeelaaGreatDoor.Dk.sev (hsh x k), k, v))).Perm (ents z ++ [(k, v)]) ∧
    dels (z.set (8 * gAt G (hsh x k) j + i) (YtnajhjmdpaeelaaGreatDoor.Dk.sev (hsh x k), k, v)) ≤ dels z := by
  have hg := gAt_lt h.grp.pos (hsh x k) j
  obtain ⟨g, eg⟩ : ∃ g, gAt G (hsh x k) j = g := ⟨_, rfl⟩
  rw [eg] at hf hr hg ⊢
  have hq : 8 * g + i < z.length := by rw [h.len]; omega
  have hs := sev_lt x k
  have hp := ents_lay hq hf (YtnajhjmdpaeelaaGreatDoor.Dk.sev (hsh x k), k, v) hs
  have hd := dels_set hq (YtnajhjmdpaeelaaGreatDoor.Dk.sev (hsh x k), k, v)
  rw [if_neg (show ¬ (YtnajhjmdpaeelaaGreatDoor.Dk.sev (hsh x k), k, v).1 = 254 by simp only []; omega)] at hd
  generalize hc : ((YtnajhjmdpaeelaaGreatDoor.Dk.sev (hsh x k), k, v) : Cl) = c at hp hd ⊢
  have hc1 : c.1 = YtnajhjmdpaeelaaGreatDoor.Dk.sev (hsh x k) := by rw [← hc]
  have hc2 : c.2 = (k, v) := by rw [← hc]
  have hlen : (z.set (8 * g + i) c).length = 8 * G := by rw [List.length_set]; exact h.len
  have hE : ∀ g', g' < G → hasE z g' = false → hasE (z.set (8 * g + i) c) g' = false := by
    intro g' hg' h0
    apply Bool.eq_false_iff.2
    intro h1
    obtain ⟨s, hs', h2⟩ := (hasE_iff hlen hg').1 h1
    by_cases e : 8 * g + i = 8 * g' + s
    · rw [← e, cel_set z hq] at h2
      omega
    · rw [cel_set_ne z e] at h2
      rw [(hasE_iff h.len hg').2 ⟨s, hs', h2⟩] at h0
      cases h0
  refine ⟨⟨h.grp, hlen, ?_, ?_, ?_, ?_, ?_⟩, by rw [← hc2]; exact hp, by omega⟩
  · intro q hq'
    by_cases e : 8 * g + i = q
    · subst e; rw [cel_set z hq]; omega
    · rw [cel_set_ne z e]; exact h.byt q hq'
  · intro q hq'
    by_cases e : 8 * g + i = q
    · subst e; rw [cel_set z hq]; intro _; rw [hc1, hc2]
    · rw [cel_set_ne z e]; exact h.sev q hq'
  · intro q hq'
    by_cases e : 8 * g + i = q
    · subst e
      rw [cel_set z hq]
      intro _
      rw [hc2]
      refine ⟨j, hj, by rw [eg]; show g = (8 * g + i) / 8; omega, fun j' hj' => hE _ (gAt_lt h.grp.pos _ _) ?_⟩
      apply Bool.eq_false_iff.2
      intro h1
      obtain ⟨s, hs', h2⟩ := (hasE_iff h.len (gAt_lt h.grp.pos _ _)).1 h1
      have := hno j' hj' s hs'
      have h3 : (cel z (8 * gAt G (hsh x k) j' + s)).1 = 128 := h2
      omega
    · rw [cel_set_ne z e]
      intro hf'
      obtain ⟨d, hd1, hd2, hd3⟩ := h.way q hq' hf'
      exact ⟨d, hd1, hd2, fun j' hj' => hE _ (gAt_lt h.grp.pos _ _) (hd3 j' hj')⟩
  · have := hp.map (·.1)
    refine this.nodup_iff.2 ?_
    rw [List.map_append, List.nodup_append, hc2]
    refine ⟨h.nod, by simp, ?_⟩
    intro a ha b hb
    rw [List.map_cons, List.map_nil, List.mem_singleton] at hb
    subst hb
    rintro rfl
    exact hk ha
  · have := hp.length_eq
    rw [List.length_append, List.length_singleton] at this
    rcases hr with hr | hr
    · rw [if_pos hr] at hd
      have := h.room
      omega
    · split at hd <;> omega
/-- The mark of a slot whose key is taken away. -/
def mrk (z : List Cl) (g : Nat) : Nat := if hasE z g = true then 128 else 254
theorem mrk_ge (z : List Cl) (g : Nat) : 128 ≤ mrk z g := by unfold mrk; split <;> omega
theorem mrk_lt (z : List Cl) (g : Nat) : mrk z g < 256 := by unfold mrk; split <;> omega
/-- A key that is taken away. -/
theorem Inv.take {x G : Nat} {z : List Cl} (h : Inv x G z) {g i : Nat} (hg : g < G) (hi : i < 8) (hf : (cel z (8 * g + i)).1 < 128) (e : En) :
    Inv x G (z.set (8 * g + i) (mrk z g, e)) ∧ (ents z).Perm ((cel z (8 * g + i)).2 :: ents (z.set (8 * g + i) (mrk z g, e))) := by
  have hq : 8 * g + i < z.length := by rw [h.len]; omega
  have hm := mrk_ge z g
  have hp := ents_take hq hf (mrk z g, e) hm
  have hd := dels_set hq (mrk z g, e)
  rw [if_neg (show ¬ (cel z (8 * g + i)).1 = 254 by omega)] at hd
  have hlen : (z.set (8 * g + i) (mrk z g, e)).length = 8 * G := by rw [List.length_set]; exact h.len
  have hE : ∀ g', g' < G → hasE z g' = false → hasE (z.set (8 * g + i) (mrk z g, e)) g' = false := by
    intro g' hg' h0
    apply Bool.eq_false_iff.2
    intro h1
    obtain ⟨s, hs', h2⟩ := (hasE_iff hlen hg').1 h1
    by_cases ee : 8 * g + i = 8 * g' + s
    · rw [← ee, cel_set z hq] at h2
      have : g' = g := by omega
      subst this
      simp only [mrk, h0, Bool.false_eq_true, if_false] at h2
      omega
    · rw [cel_set_ne z ee] at h2
      rw [(hasE_iff h.len hg').2 ⟨s, hs', h2⟩] at h0
      cases h0
  refine ⟨⟨h.grp, hlen, ?_, ?_, ?_, ?_, ?_⟩, hp⟩
  · intro q hq'
    by_cases e : 8 * g + i = q
    · subst e; rw [cel_set z hq]; simp only [mrk]; split <;> omega
    · rw [cel_set_ne z e]; exact h.byt q hq'
  · intro q hq'
    by_cases e : 8 * g + i = q
    · subst e; rw [cel_set z hq]; intro h1; simp only [] at h1; omega
    · rw [cel_set_ne z e]; exact h.sev q hq'
  · intro q hq'
    by_cases e : 8 * g + i = q
    · subst e; rw [cel_set z hq]; intro h1; simp only [] at h1; omega
    · rw [cel_set_ne z e]
      intro hf'
      obtain ⟨d, hd1, hd2, hd3⟩ := h.way q hq' hf'
      exact ⟨d, hd1, hd2, fun j' hj' => hE _ (gAt_lt h.grp.pos _ _) (hd3 j' hj')⟩
  · have := (hp.map (·.1)).nodup_iff.1 h.nod
    rw [List.map_cons, List.nodup_cons] at this
    exact this.2
  · have := hp.length_eq
    rw [List.length_cons] at this
    have := h.room
    split at hd <;> omega
/-- A key that has something else. -/
theorem Inv.turn {x G : Nat} {z : List Cl} (h : Inv x G z) {g i : Nat} (hg : g < G) (hi : i < 8) (hf : (cel z (8 * g + i)).1 < 128) (v : (Option Addr)) :
    Inv x G (z.set (8 * g + i) ((cel z (8 * g + i)).1, (cel z (8 * g + i)).2.1, v)) ∧ ∃ a b, ents z = a ++ (cel z (8 * g + i)).2 :: b ∧ ents (z.set (8 * g + i) ((cel z (8 * g + i)).1, (cel z (8 * g + i)).2.1, v)) = a ++ ((cel z (8 * g + i)).2.1, v) :: b := by
  have hq : 8 * g + i < z.length := by rw [h.len]; omega
  obtain ⟨a, b, h1, h2⟩ := ents_turn hq hf ((cel z (8 * g + i)).1, (cel z (8 * g + i)).2.1, v) hf
  have hd := dels_set hq ((cel z (8 * g + i)).1, (cel z (8 * g + i)).2.1, v)
  have hlen : (z.set (8 * g + i) ((cel z (8 * g + i)).1, (cel z (8 * g + i)).2.1, v)).length = 8 * G := by rw [List.length_set]; exact h.len
  have hW : ∀ g', wrd (z.set (8 * g + i) ((cel z (8 * g + i)).1, (cel z (8 * g + i)).2.1, v)) g' = wrd z g' := by
    intro g'
    by_cases e : g = g'
    · subst e
      rw [wrd_set z hi _ hq]
      apply List.ext_getElem?
      intro s
      by_cases e : i = s
      · subst e
        rw [List.getElem?_set_self (by rw [wrd_len h.len hg]; exact hi), wrd_get?, if_pos hi, cel_at z hq, List.getElem?_eq_getElem hq]
        rfl
      · rw [List.getElem?_set_ne e]
    · rw [wrd_set_ne z hi _ e]
  have hE : ∀ g', hasE (z.set (8 * g + i) ((cel z (8 * g + i)).1, (cel z (8 * g + i)).2.1, v)) g' = hasE z g' := by
    intro g'; unfold hasE; rw [hW]
  refine ⟨⟨h.grp, hlen, ?_, ?_, ?_, ?_, ?_⟩, a, b, h1, h2⟩
  · intro q hq'
    by_cases e : 8 * g + i = q
    · subst e; rw [cel_set z hq]; exact .inl hf
    · rw [cel_set_ne z e]; exact h.byt q hq'
  · intro q hq'
    by_cases e : 8 * g + i = q
    · subst e; rw [cel_set z hq]; intro _; exact h.sev _ hq' hf
    · rw [cel_set_ne z e]; exact h.sev q hq'
  · intro q hq'
    by_cases e : 8 * g + i = q
    · subst e; rw [cel_set z hq]; intro _
      obtain ⟨d, hd1, hd2, hd3⟩ := h.way _ hq' hf
      exact ⟨d, hd1, hd2, fun j' hj' => by rw [hE]; exact hd3 j' hj'⟩
    · rw [cel_set_ne z e]
      intro hf'
      obtain ⟨d, hd1, hd2, hd3⟩ := h.way q hq' hf'
      exact ⟨d, hd1, hd2, fun j' hj' => by rw [hE]; exact hd3 j' hj'⟩
  · have := h.nod
    rw [h1] at this
    rw [h2]
    simpa using this
  · have := h.room
    rw [h1] at this
    rw [h2]
    simp only [List.length_append, List.length_cons] at this ⊢
    simp only [] at hd
    omega
/-- A table without keys. -/
def news0 (G : Nat) : List Cl := List.replicate (8 * G) noC
theorem cel_news0 (G q : Nat) : cel (news0 G) q = noC := by
  unfold cel news0
  rw [List.getD_eq_getElem?_getD, List.getElem?_replicate]
  split <;> rfl
theorem ents_news0 (G : Nat) : ents (news0 G) = [] := by
  unfold ents news0
  rw [List.filter_replicate, if_neg (by decide)]; rfl
theorem dels_news0 (G : Nat) : dels (news0 G) = 0 := by
  unfold dels news0
  rw [List.filter_replicate, if_neg (by decide)]; rfl
theorem Inv.news (x : Nat) {G : Nat} (hG : isG G) : Inv x G (news0 G) := by
  refine ⟨hG, by simp [news0], ?_, ?_, ?_, ?_, ?_⟩
  · intro q _; rw [cel_news0]; exact .inr (.inl rfl)
  · intro q _ h; rw [cel_news0] at h; simp at h
  · intro q _ h; rw [cel_news0] at h; simp at h
  · rw [ents_news0]; exact List.nodup_nil
  · rw [ents_news0, dels_news0]; simp
/-- The cells of G groups. -/
structure Grid (cs : Array Value) (G : Nat) (z : List Cl) : Prop where
  size : cs.size = 17 * G
  word : ∀ g, g < G → cs[g * 17]? = some (.int .u64 (val (wrd z g) : Nat))
  key : ∀ g i, g < G → i < 8 → cs[g * 17 + 1 + i * 2]? = some (.string (cel z (8 * g + i)).2.1)
  vl : ∀ g i, g < G → i < 8 → cs[g * 17 + 1 + i * 2 + 1]? = some (.pointer (cel z (8 * g + i)).2.2)
/-- A row of G groups in block b. -/
structure Row (w : World) (b G : Nat) (z : List Cl) : Prop where
  ex : ∃ cs, w.heap[b]? = some (.cells cs 230 (0, 0)) ∧ Grid cs G z
theorem Row.lt {w : World} {b G : Nat} {z : List Cl} (h : Row w b G z) : b < w.heap.size := by
  obtain ⟨cs, h1, -⟩ := h.ex
  exact (Array.getElem?_eq_some_iff.1 h1).1
theorem Row.kept {w wn : World} {b G : Nat} {z : List Cl} (h : Row w b G z) (hb : wn.heap[b]? = w.heap[b]?) : Row wn b G z := by
  obtain ⟨cs, h1, h2⟩ := h.ex
  exact ⟨cs, by rw [hb]; exact h1, h2⟩
theorem Row.keep {w wn : World} {b G : Nat} {z : List Cl} (h : Row w b G z) (hb : Below w.heap.size w wn) : Row wn b G z := h.kept (hb.block b h.lt)
theorem Row.word {w : World} {b G : Nat} {z : List Cl} (h : Row w b G z) {g : Nat} (hg : g < G) : w.cell? ⟨b, g * 17, none⟩ = some (.int .u64 (val (wrd z g) : Nat)) := by
  obtain ⟨cs, h1, h2⟩ := h.ex
  simp only [World.cell?, h1]
  exact h2.word g hg
theorem Row.key {w : World} {b G : Nat} {z : List Cl} (h : Row w b G z) {g i : Nat} (hg : g < G) (hi : i < 8) : w.cell? ⟨b, g * 17 + 1 + i * 2, none⟩ = some (.string (cel z (8 * g + i)).2.1) := by
  obtain ⟨cs, h1, h2⟩ := h.ex
  simp only [World.cell?, h1]
  exact h2.key g i hg hi
theorem Row.vl {w : World} {b G : Nat} {z : List Cl} (h : Row w b G z) {g i : Nat} (hg : g < G) (hi : i < 8) : w.cell? ⟨b, g * 17 + 1 + i * 2 + 1, none⟩ = some (.pointer (cel z (8 * g + i)).2.2) := by
  obtain ⟨cs, h1, h2⟩ := h.ex
  simp only [World.cell?, h1]
  exact h2.vl g i hg hi
theorem Row.frozen {w : World} {b G : Nat} {z : List Cl} (h : Row w b G z) (o : Nat) : w.frozen? ⟨b, o, none⟩ = false := by
  obtain ⟨cs, h1, h2⟩ := h.ex
  simp [World.frozen?, h1]
theorem heap_set {w : World} {b o : Nat} {cs : Array Value} {t : TypeId} (h : w.heap[b]? = some (.cells cs t (0, 0))) (v : Value) : (w.setCell ⟨b, o, none⟩ v).heap[b]? = some (.cells (cs.setIfInBounds o v) t (0, 0)) := by
  simp only [World.setCell, Array.getElem?_modify, if_true, h]
  rfl
theorem Grid.put {cs : Array Value} {G : Nat} {z z' : List Cl} (h : Grid cs G z) (o : Nat) (v : Value)
    (h1 : ∀ g, g < G → if o = g * 17 then some v = some (.int .u64 (val (wrd z' g) : Nat)) else wrd z' g = wrd z g)
    (h2 : ∀ g i, g < G → i < 8 → if o = g * 17 + 1 + i * 2 then some v = some (.string (cel z' (8 * g + i)).2.1) else (cel z' (8 * g + i)).2.1 = (cel z (8 * g + i)).2.1)
    (h3 : ∀ g i, g < G → i < 8 → if o = g * 17 + 1 + i * 2 + 1 then some v = some (.pointer (cel z' (8 * g + i)).2.2) else (cel z' (8 * g + i)).2.2 = (cel z (8 * g + i)).2.2) : Grid (cs.setIfInBounds o v) G z' := by
  have hs := h.size
  refine ⟨by simpa using hs, ?_, ?_, ?_⟩
  · intro g hg
    have := h1 g hg
    split at this
    · rename_i e
      subst e
      rw [Array.getElem?_setIfInBounds_self_of_lt (by omega)]
      exact this
    · rw [Array.getElem?_setIfInBounds_ne (by assumption), this]
      exact h.word g hg
  · intro g i hg hi
    have := h2 g i hg hi
    split at this
    · rename_i e
      subst e
      rw [Array.getElem?_setIfInBounds_self_of_lt (by omega)]
      exact this
    · rw [Array.getElem?_setIfInBounds_ne (by assumption), this]
      exact h.key g i hg hi
  · intro g i hg hi
    have := h3 g i hg hi
    split at this
    · rename_i e
      subst e
      rw [Array.getElem?_setIfInBounds_self_of_lt (by omega)]
      exact this
    · rw [Array.getElem?_setIfInBounds_ne (by assumption), this]
      exact h.vl g i hg hi
/-- A slot's byte is set. -/
theorem Row.byte {w : World} {b G : Nat} {z : List Cl} (h : Row w b G z) (hz : z.length = 8 * G) {g i : Nat} (hg : g < G) (hi : i < 8) (c : Nat) :
    Row (w.setCell ⟨b, g * 17, none⟩ (.int .u64 (val ((wrd z g).set i c) : Nat))) b G (z.set (8 * g + i) (c, (cel z (8 * g + i)).2)) := by
  obtain ⟨cs, h1, h2⟩ := h.ex
  have hq : 8 * g + i < z.length := by omega
  have hc : ∀ q, (cel (z.set (8 * g + i) (c, (cel z (8 * g + i)).2)) q).2 = (cel z q).2 := by
    intro q
    by_cases e : 8 * g + i = q
    · subst e; rw [cel_set z hq]
    · rw [cel_set_ne z e]
  refine ⟨_, heap_set h1 _, h2.put _ _ ?_ ?_ ?_⟩
  · intro g' hg'
    split
    · have : g' = g := by omega
      subst this
      rw [wrd_set z hi _ hq]
    · rw [wrd_set_ne z hi _ (by rintro rfl; contradiction)]
  · intro g' i' hg' hi'
    rw [if_neg (by omega), hc]
  · intro g' i' hg' hi'
    rw [if_neg (by omega), hc]
/-- A slot's key is set. -/
theorem Row.setKey {w : World} {b G : Nat} {z : List Cl} (h : Row w b G z) (hz : z.length = 8 * G) {g i : Nat} (hg : g < G) (hi : i < 8) (k : ByteArray) :
    Row (w.setCell ⟨b, g * 17 + 1 + i * 2, none⟩ (.string k)) b G (z.set (8 * g + i) ((cel z (8 * g + i)).1, k, (cel z (8 * g + i)).2.2)) := by
  obtain ⟨cs, h1, h2⟩ := h.ex
  have hq : 8 * g + i < z.length := by omega
  have hw : ∀ g', g' < G → wrd (z.set (8 * g + i) ((cel z (8 * g + i)).1, k, (cel z (8 * g + i)).2.2)) g' = wrd z g' := by
    intro g' hg'
    refine wrd_ext (G := G) (by rw [List.length_set]; exact hz) hg' _ (wrd_len hz hg') (fun s hs => ?_)
    rw [wrd_get hz hg' hs]
    by_cases e : 8 * g + i = 8 * g' + s
    · rw [← e, cel_set z hq]
    · rw [cel_set_ne z e]
  refine ⟨_, heap_set h1 _, h2.put _ _ ?_ ?_ ?_⟩
  · intro g' hg'
    rw [if_neg (by omega), hw g' hg']
  · intro g' i' hg' hi'
    split
    · have : 8 * g' + i' = 8 * g + i := by omega
      rw [this, cel_set z hq]
    · rw [cel_set_ne z (by omega)]
  · intro g' i' hg' hi'
    rw [if_neg (by omega)]
    by_cases e : 8 * g + i = 8 * g' + i'
    · rw [← e, cel_set z hq]
    · rw [cel_set_ne z e]
/-- What a slot has is set. -/
theorem Row.setVal {w : World} {b G : Nat} {z : List Cl} (h : Row w b G z) (hz : z.length = 8 * G) {g i : Nat} (hg : g < G) (hi : i < 8) (v : (Option Addr)) :
    Row (w.setCell ⟨b, g * 17 + 1 + i * 2 + 1, none⟩ (.pointer v)) b G (z.set (8 * g + i) ((cel z (8 * g + i)).1, (cel z (8 * g + i)).2.1, v)) := by
  obtain ⟨cs, h1, h2⟩ := h.ex
  have hq : 8 * g + i < z.length := by omega
  have hw : ∀ g', g' < G → wrd (z.set (8 * g + i) ((cel z (8 * g + i)).1, (cel z (8 * g + i)).2.1, v)) g' = wrd z g' := by
    intro g' hg'
    refine wrd_ext (G := G) (by rw [List.length_set]; exact hz) hg' _ (wrd_len hz hg') (fun s hs => ?_)
    rw [wrd_get hz hg' hs]
    by_cases e : 8 * g + i = 8 * g' + s
    · rw [← e, cel_set z hq]
    · rw [cel_set_ne z e]
  refine ⟨_, heap_set h1 _, h2.put _ _ ?_ ?_ ?_⟩
  · intro g' hg'
    rw [if_neg (by omega), hw g' hg']
  · intro g' i' hg' hi'
    rw [if_neg (by omega)]
    by_cases e : 8 * g + i = 8 * g' + i'
    · rw [← e, cel_set z hq]
    · rw [cel_set_ne z e]
  · intro g' i' hg' hi'
    split
    · have : 8 * g' + i' = 8 * g + i := by omega
      rw [this, cel_set z hq]
    · rw [cel_set_ne z (by omega)]
/-- A whole slot: its byte is there already. -/
theorem Row.slot {w : World} {b G : Nat} {z : List Cl} (h : Row w b G z) (hz : z.length = 8 * G) {g i : Nat} (hg : g < G) (hi : i < 8) (k : ByteArray) (v : (Option Addr)) :
    Row ((w.setCell ⟨b, g * 17 + 1 + i * 2, none⟩ (.string k)).setCell ⟨b, g * 17 + 1 + i * 2 + 1, none⟩ (.pointer v)) b G (z.set (8 * g + i) ((cel z (8 * g + i)).1, k, v)) := by
  have hq : 8 * g + i < z.length := by omega
  have := (h.setKey hz hg hi k).setVal (by rw [List.length_set]; exact hz) hg hi v
  rw [cel_set z hq, List.set_set] at this
  exact this
/-- A table's own block. -/
structure Top (w : World) (p b x G : Nat) : Prop where
  blk : w.heap[p]? = some (.cells #[.int .u64 (x : Nat), .slice (some ⟨b, 0, none⟩) G G] 157 (0, 0))
theorem Top.lt {w : World} {p b x G : Nat} (h : Top w p b x G) : p < w.heap.size := (Array.getElem?_eq_some_iff.1 h.blk).1
theorem Top.kept {w wn : World} {p b x G : Nat} (h : Top w p b x G) (hb : wn.heap[p]? = w.heap[p]?) : Top wn p b x G := ⟨by rw [hb]; exact h.blk⟩
theorem Top.keep {w wn : World} {p b x G : Nat} (h : Top w p b x G) (hb : Below w.heap.size w wn) : Top wn p b x G := h.kept (hb.block p h.lt)
theorem Top.seed {w : World} {p b x G : Nat} (h : Top w p b x G) : w.cell? ⟨p, 0, none⟩ = some (.int .u64 (x : Nat)) := by simp [World.cell?, h.blk]
theorem Top.groups {w : World} {p b x G : Nat} (h : Top w p b x G) : w.cell? ⟨p, 1, none⟩ = some (.slice (some ⟨b, 0, none⟩) G G) := by simp [World.cell?, h.blk]
theorem Top.frozen {w : World} {p b x G : Nat} (h : Top w p b x G) (o : Nat) : w.frozen? ⟨p, o, none⟩ = false := by simp [World.frozen?, h.blk]
theorem Top.set {w : World} {p b x G : Nat} (h : Top w p b x G) (b' G' : Nat) : Top (w.setCell ⟨p, 1, none⟩ (.slice (some ⟨b', 0, none⟩) G' G')) p b' x G' := ⟨by rw [heap_set h.blk]; rfl⟩
theorem Top.ne {w : World} {p b x G b' G' : Nat} {z : List Cl} (h : Top w p b x G) (h' : Row w b' G' z) : p ≠ b' := by
  rintro rfl
  obtain ⟨cs, h1, -⟩ := h'.ex
  have := h.blk
  rw [h1] at this
  simp at this
/-- A table in memory. -/
structure Tab (w : World) (B p b x G : Nat) (z : List Cl) : Prop where
  top : Top w p b x G
  row : Row w b G z
  low : B ≤ p
  lowb : B ≤ b
  inv : Inv x G z
  seed : x < 18446744073709551616
  siz : ∀ e ∈ ents z, e.1.size ≤ maxLen
theorem Tab.keep {w wn : World} {B p b x G : Nat} {z : List Cl} (h : Tab w B p b x G z) (hb : Below w.heap.size w wn) : Tab wn B p b x G z := ⟨h.top.keep hb, h.row.keep hb, h.low, h.lowb, h.inv, h.seed, h.siz⟩
abbrev ptr (p : Nat) : Value := .pointer (some ⟨p, 0, none⟩)
theorem home_any (p b x G h : Nat) (w : World) (hT : Top w p b x G) (hG : isG G) (hh : h < 18446744073709551616) :
    Calls Tryz.prog 193 #[ptr p, .int .u64 h] w fun e w' => e = .returned (.int .i64 (gAt G h 0 : Nat)) ∧ w' = w := by
  have hc := hT.groups
  have hG16 := hG.le
  have hG0 := hG.pos
  have hlt := gAt_lt hG0 h 0
  have e : (h : Int) / 65536 % (G : Int) = (gAt G h 0 : Nat) := by unfold gAt; simp
  generalize gAt G h 0 = g at e hlt ⊢
  clear hT hG
  go_enter Tryz.func193, Tryz.ntmps193
  go_wp2
  go_ret
  exact ⟨rfl, rfl⟩
theorem next_any (p b x G g : Nat) (w : World) (hT : Top w p b x G) (hG : isG G) (hg : g < G) :
    Calls Tryz.prog 197 #[ptr p, .int .i64 g] w fun e w' => e = .returned (.int .i64 ((g + 1) % G : Nat)) ∧ w' = w := by
  have hc := hT.groups
  have hG16 := hG.le
  have hG0 := hG.pos
  have e : ((g : Int) + 1).tmod (G : Int) = ((g + 1) % G : Nat) := by
    rw [show ((g : Int) + 1) = ((g + 1 : Nat) : Int) by omega]
    exact (Int.ofNat_tmod (g + 1) G).symm
  have hlt : (g + 1) % G < G := Nat.mod_lt _ hG0
  generalize (g + 1) % G = q at e hlt ⊢
  clear hT hG
  go_enter Tryz.func197, Tryz.ntmps197
  go_wp2
  go_ret
  exact ⟨rfl, rfl⟩
/-- What must be known of an element's type. -/
structure Elt (t e : TypeId) (s by8 : Nat) : Prop where
  und : Tryz.prog.underlying t = some (.slice e)
  inf : ∃ i z, Tryz.prog.info? e = some i ∧ i.zero = some z ∧ i.size = s ∧ i.bytes = by8 ∧ z.cells.size = s
  pos : 0 < s
theorem elt_of {t e : TypeId} {s by8 : Nat} {z : Value} (hu : Tryz.prog.underlying t = some (.slice e)) (hi : (Tryz.prog.info? e).map (fun i => (i.zero, i.size, i.bytes)) = some (some z, s, by8)) (hz : z.cells.size = s) (hp : 0 < s) : Elt t e s by8 := by
  obtain ⟨i, h1, h2, h3, h4⟩ := info_parts hi
  exact ⟨hu, ⟨i, z, h1, h2, h3, h4, hz⟩, hp⟩
/-- A row of the call's own: elements of s cells each. -/
def OwnR (w : World) (B : Nat) (e : TypeId) (s : Nat) (a : Option Addr) (n cap : Nat) (cs : List Value) : Prop := w.ownsRow B e s (.slice a n cap) n cs
theorem OwnR.nil (w : World) (B : Nat) (e : TypeId) (s : Nat) : OwnR w B e s none 0 0 [] := World.ownsRow_nil w B e s
theorem OwnR.len {w : World} {B : Nat} {e : TypeId} {s : Nat} {a : Option Addr} {n cap : Nat} {cs : List Value} (h : OwnR w B e s a n cap cs) : cs.length = n * s := h.1
theorem OwnR.lt {w : World} {B : Nat} {e : TypeId} {s : Nat} {a : Option Addr} {n cap : Nat} {cs : List Value} (h : OwnR w B e s a n cap cs) {k : Nat} (hk : a.map (·.block) = some k) : B ≤ k ∧ k < w.heap.size ∧ ∃ cur, w.heap[k]? = some (.cells cur e (0, 0)) := by
  rcases h.2 with ⟨h2, h3⟩ | ⟨g, c, cur, h1, h3, h4, h5⟩
  · cases h2; cases hk
  · cases h1
    cases hk
    exact ⟨h3, (Array.getElem?_eq_some_iff.1 h4).1, cur, h4⟩
theorem OwnR.kept {w wn : World} {B : Nat} {e : TypeId} {s : Nat} {a : Option Addr} {n cap : Nat} {cs : List Value} (h : OwnR w B e s a n cap cs) (hb : ∀ k, a.map (·.block) = some k → wn.heap[k]? = w.heap[k]?) : OwnR wn B e s a n cap cs := by
  refine ⟨h.1, ?_⟩
  rcases h.2 with h2 | ⟨g, c, cur, h1, h3, h4, h5⟩
  · exact .inl h2
  · refine .inr ⟨g, c, cur, h1, h3, ?_, h5⟩
    cases h1
    rw [hb g rfl]; exact h4
theorem OwnR.keep {w wn : World} {B : Nat} {e : TypeId} {s : Nat} {a : Option Addr} {n cap : Nat} {cs : List Value} (h : OwnR w B e s a n cap cs) (hb : Below w.heap.size w wn) : OwnR wn B e s a n cap cs :=
  h.kept fun k hk => hb.block k (h.lt hk).2.1
theorem OwnR.low {w : World} {B C : Nat} {e : TypeId} {s : Nat} {a : Option Addr} {n cap : Nat} {cs : List Value} (h : OwnR w B e s a n cap cs) (hC : C ≤ B) : OwnR w C e s a n cap cs := by
  refine ⟨h.1, ?_⟩
  rcases h.2 with h2 | ⟨g, c, cur, h1, h3, h4⟩
  · exact .inl h2
  · exact .inr ⟨g, c, cur, h1, Nat.le_trans hC h3, h4⟩
theorem OwnR.cap {w : World} {B : Nat} {e : TypeId} {s : Nat} {a : Option Addr} {n cap : Nat} {cs : List Value} (h : OwnR w B e s a n cap cs) : n ≤ cap ∧ cap ≤ maxLen := by
  rcases h.2 with ⟨h2, h3⟩ | ⟨g, c, cur, h1, h3, h4, h5, h6, h7⟩
  · cases h2; exact ⟨by omega, by decide⟩
  · cases h1; exact ⟨h5, h6⟩
theorem OwnR.at {w : World} {B : Nat} {e : TypeId} {s : Nat} {a : Option Addr} {n cap : Nat} {cs : List Value} (h : OwnR w B e s a n cap cs) (hn : 0 < n) : ∃ g, a = some ⟨g, 0, none⟩ ∧ ∀ j u, cs[j]? = some u → w.cell? ⟨g, j, none⟩ = some u := by
  rcases h.2 with ⟨h2, h3⟩ | ⟨g, c, cur, h1, h3, h4, h5, h6, h7, h8⟩
  · omega
  · cases h1
    refine ⟨g, rfl, fun j u hu => ?_⟩
    have := World.ownsRow.cells (w := w) h (g := g) rfl j u hu
    rw [add_flat, Nat.zero_add] at this
    exact this
/-- Where a row is behind an append: where it was, or in new memory. -/
def Goes (w : World) (a a2 : Option Addr) : Prop := a2.map (·.block) = a.map (·.block) ∨ a2.map (·.block) = some w.heap.size
theorem run_append_r (w : World) (B : Nat) {t e : TypeId} {s by8 : Nat} (F : Elt t e s by8) {a : Option Addr} {n cap : Nat} {cs : List Value} (hown : OwnR w B e s a n cap cs) {ad : Addr} {m c : Nat} (news : List Value) (hl : news.length = m * s)
    (hnews : ∀ j u, news[j]? = some u → w.cell? (ad.add j) = some u) (h1 : ∀ u ∈ news, u.oneCell' = true) (hm : 0 < m) (hb : (n + m) * by8 ≤ 140737488355328) (h63 : n + m ≤ maxLen) (hB : B ≤ w.heap.size) (ty : TypeId) :
    ∃ a2 c2 w2, (Builtin.append_ #[t, t] ty #[.slice a n cap, .slice (some ad) m c]).run Tryz.prog w = .ok (.slice a2 (n + m) c2) w2 ∧ OwnR w2 B e s a2 (n + m) c2 (cs ++ news) ∧ w.grownBy w2 (a.map (·.block)) ∧ Goes w a a2 := by
  obtain ⟨i, z, hi, hz0, hz1, hz2, hz3⟩ := F.inf
  obtain ⟨v', w', k1, k2, k3, -, k5⟩ := run_append_own_at (P := Tryz.prog) w B t ty e i z s by8 F.und hi hz0 hz1 hz2 hz3 F.pos (.slice a n cap) n cs hown ad m c news hl hnews h1 h63 hb hB
  have hblk : (Value.slice a n cap).ownBlock = a.map (·.block) := by cases a <;> rfl
  rw [hblk] at k3 k5
  rcases k2.2 with ⟨rfl, h4⟩ | ⟨g2, c2, cur, rfl, h4⟩
  · omega
  · exact ⟨_, _, w', k1, k2, k3, k5⟩
theorem append_r {w : World} {ops : Array Oper} {rest : List Oper} {o : Oper} {ac : Act} {Q : Exit → Act → World → Prop} (hgd : o.guard = none) (s x : Operand) {t e : TypeId} {sz by8 : Nat} (ho : o.op = .call { callee := .builtin .append, args := #[s, x], argTypes := #[t, t] })
    (F : Elt t e sz by8) (B : Nat) {a : Option Addr} {n cap : Nat} {cs : List Value} (hs : ac.eval s = .slice a n cap) (hown : OwnR w B e sz a n cap cs) {ad : Addr} {m c : Nat} (news : List Value) (hx : ac.eval x = .slice (some ad) m c) (hl : news.length = m * sz)
    (hnews : ∀ j u, news[j]? = some u → w.cell? (ad.add j) = some u) (h1 : ∀ u ∈ news, u.oneCell' = true) (hm : 0 < m) (hb : (n + m) * by8 ≤ 140737488355328) (h63 : n + m ≤ maxLen) (hB : B ≤ w.heap.size)
    (h : ∀ a2 n2 c2 w2, n2 = n + m → Hid (OwnR w2 B e sz a2 n2 c2 (cs ++ news)) → Hid (w.grownBy w2 (a.map (·.block))) → Hid (Goes w a a2) → wpList Tryz.prog ops Q rest (ac.put o.dst (.slice a2 n2 c2)) w2) : wpList Tryz.prog ops Q (o :: rest) ac w := by
  obtain ⟨a2, c2, w2, h1, h2, h3, h4⟩ := run_append_r w B F hown (c := c) news hl hnews h1 hm hb h63 hB o.type
  refine wpList_plain hgd fun K hK => ?_
  unfold Oper.wp
  simp [execOp, ho, resolve, invoke, builtin, hs, hx, h1, Result.andThen]
  exact hK _ _ (h a2 _ c2 w2 rfl h2 h3 h4)
theorem OwnR.below {w w2 : World} {B : Nat} {e : TypeId} {s : Nat} {a : Option Addr} {n cap : Nat} {cs : List Value} (h : OwnR w B e s a n cap cs) (hg : w.grownBy w2 (a.map (·.block))) (hB : B ≤ w.heap.size) : Below B w w2 :=
  (Below.refl B w).grown hg hB (fun _ hk => (h.lt hk).1)
/-- What is in another block is as it was behind an append. -/
theorem OwnR.grown {w w2 : World} {B : Nat} {e : TypeId} {s : Nat} {a : Option Addr} {n cap : Nat} {cs : List Value} {row : Option Nat} (h : OwnR w B e s a n cap cs) (hg : w.grownBy w2 row) (hne : ∀ k, a.map (·.block) = some k → row ≠ some k) : OwnR w2 B e s a n cap cs :=
  h.kept fun k hk => hg.block k (h.lt hk).2.1 (fun e => hne k hk e.symm)
/-- Rows of unlike elements are apart. -/
theorem OwnR.apart {w : World} {B C : Nat} {e e' : TypeId} {s s' : Nat} {a a' : Option Addr} {n cap n' cap' : Nat} {cs cs' : List Value} (h : OwnR w B e s a n cap cs) (h' : OwnR w C e' s' a' n' cap' cs') (he : e ≠ e') : ∀ k, a.map (·.block) = some k → a'.map (·.block) ≠ some k := by
  intro k hk hk'
  obtain ⟨-, -, cur, h1⟩ := h.lt hk
  obtain ⟨-, -, cur', h2⟩ := h'.lt hk'
  rw [h1] at h2
  simp at h2
  exact he h2.2
theorem Tab.grown {w w2 : World} {B C p b x G : Nat} {z : List Cl} {e : TypeId} {s : Nat} {a : Option Addr} {n cap : Nat} {cs : List Value} (h : Tab w B p b x G z) (h' : OwnR w C e s a n cap cs) (hg : w.grownBy w2 (a.map (·.block))) (h1 : e ≠ 157) (h2 : e ≠ 230) : Tab w2 B p b x G z := by
  refine ⟨h.top.kept (hg.block p h.top.lt ?_), h.row.kept (hg.block b h.row.lt ?_), h.low, h.lowb, h.inv, h.seed, h.siz⟩
  · intro hk
    obtain ⟨-, -, cur, h3⟩ := h'.lt hk.symm
    rw [h.top.blk] at h3
    simp at h3
    exact h1 h3.2.symm
  · intro hk
    obtain ⟨-, -, cur, h3⟩ := h'.lt hk.symm
    obtain ⟨cs, h4, -⟩ := h.row.ex
    rw [h4] at h3
    simp at h3
    exact h2 h3.2.symm
/-- All is as it was, but for a table and the row of its groups, and what is new. -/
structure Moves (w w' : World) (p b : Nat) : Prop where
  os : w'.os = w.os
  tape : w'.tape = w.tape
  output : w'.output = w.output
  size : w.heap.size ≤ w'.heap.size
  block : ∀ k, k < w.heap.size → k ≠ p → k ≠ b → w'.heap[k]? = w.heap[k]?
theorem Moves.refl (w : World) (p b : Nat) : Moves w w p b := ⟨rfl, rfl, rfl, Nat.le_refl _, fun _ _ _ _ => rfl⟩
theorem Moves.of_below {w w' : World} (h : Below w.heap.size w w') (p b : Nat) : Moves w w' p b := ⟨h.os, h.tape, h.output, h.size, fun k hk _ _ => h.block k hk⟩
/-- Two steps: the second one's row is the first's, or it is new. -/
theorem Moves.trans {w w1 w2 : World} {p b b1 : Nat} (h : Moves w w1 p b) (k : Moves w1 w2 p b1) (hb : b1 = b ∨ w.heap.size ≤ b1) : Moves w w2 p b :=
  ⟨k.os.trans h.os, k.tape.trans h.tape, k.output.trans h.output, Nat.le_trans h.size k.size, fun i hi h1 h2 =>
    (k.block i (Nat.lt_of_lt_of_le hi h.size) h1 (by rcases hb with rfl | hb <;> omega)).trans (h.block i hi h1 h2)⟩
theorem Moves.below {w w' : World} {B p b : Nat} (h : Moves w w' p b) (hp : B ≤ p) (hb : B ≤ b) (hs : B ≤ w.heap.size) : Below B w w' :=
  ⟨h.os, h.tape, h.output, h.size, fun k hk => h.block k (Nat.lt_of_lt_of_le hk hs) (by omega) (by omega)⟩
theorem Moves.set {w : World} {p b q o : Nat} {v : Value} (hq : q = p ∨ q = b) : Moves w (w.setCell ⟨q, o, none⟩ v) p b :=
  ⟨rfl, rfl, rfl, by simp [World.setCell], fun k _ h1 h2 => Below.heap_setCell _ _ _ _ (by rcases hq with rfl | rfl <;> simpa)⟩
theorem Tab.moves {w w' : World} {B p b x G q b' : Nat} {z : List Cl} (h : Tab w B p b x G z) (hm : Moves w w' q b') (h1 : p ≠ q) (h2 : b ≠ b') (h3 : p ≠ b') (h4 : b ≠ q) : Tab w' B p b x G z :=
  ⟨h.top.kept (hm.block p h.top.lt h1 h3), h.row.kept (hm.block b h.row.lt h4 h2), h.low, h.lowb, h.inv, h.seed, h.siz⟩
theorem OwnR.moves {w w' : World} {B C p b x G : Nat} {z : List Cl} {e : TypeId} {s : Nat} {a : Option Addr} {n cap : Nat} {cs : List Value} (h : OwnR w C e s a n cap cs) (hm : Moves w w' p b) (hT : Tab w B p b x G z) (h1 : e ≠ 157) (h2 : e ≠ 230) : OwnR w' C e s a n cap cs :=
  h.kept fun k hk => by
    obtain ⟨-, hlt, cur, h3⟩ := h.lt hk
    refine hm.block k hlt ?_ ?_
    · rintro rfl
      rw [hT.top.blk] at h3
      simp at h3
      exact h1 h3.2.symm
    · rintro rfl
      obtain ⟨cs, h4, -⟩ := hT.row.ex
      rw [h4] at h3
      simp at h3
      exact h2 h3.2.symm
def scells (ls : List ByteArray) : List Value := ls.map Value.string
def jcells (ls : List Int) : List Value := ls.map (Value.int .i64)
def ecells (es : List En) : List Value := es.flatMap fun e => [.string e.1, .pointer e.2]
abbrev OwnS (w : World) (B : Nat) (a : Option Addr) (n cap : Nat) (ls : List ByteArray) : Prop := OwnR w B 9 1 a n cap (scells ls)
abbrev OwnJ (w : World) (B : Nat) (a : Option Addr) (n cap : Nat) (ls : List Int) : Prop := OwnR w B 3 1 a n cap (jcells ls)
abbrev OwnE (w : World) (B : Nat) (a : Option Addr) (n cap : Nat) (es : List En) : Prop := OwnR w B 227 2 a n cap (ecells es)
theorem Tryz.infoE : (Tryz.prog.info? 227).map (fun i => (i.zero, i.size, i.bytes)) = some (some (.agg #[.string ⟨#[]⟩, .pointer none]), 2, 24) := by kernel_rfl
theorem eltE : Elt 310 227 2 24 := elt_of Tryz.underlying310 Tryz.infoE rfl (by decide)
theorem ecells_append (l r : List En) : ecells (l ++ r) = ecells l ++ ecells r := List.flatMap_append ..
theorem OwnS.len {w : World} {B : Nat} {a : Option Addr} {n cap : Nat} {ls : List ByteArray} (h : OwnS w B a n cap ls) : ls.length = n := by have := OwnR.len h; simpa [scells] using this
theorem OwnJ.len {w : World} {B : Nat} {a : Option Addr} {n cap : Nat} {ls : List Int} (h : OwnJ w B a n cap ls) : ls.length = n := by have := OwnR.len h; simpa [jcells] using this
theorem ecells_len (es : List En) : (ecells es).length = es.length * 2 := by
  induction es with
  | nil => rfl
  | cons e es ih => rw [ecells, List.flatMap_cons, List.length_append, List.length_cons]; rw [ecells] at ih; rw [ih]; simp; omega
theorem OwnE.len {w : World} {B : Nat} {a : Option Addr} {n cap : Nat} {es : List En} (h : OwnE w B a n cap es) : es.length = n := by have := OwnR.len h; rw [ecells_len] at this; omega
theorem ecells_get (es : List En) (j : Nat) (hj : j < es.length) : (ecells es)[j * 2]? = some (.string (es.getD j (⟨#[]⟩, none)).1) ∧ (ecells es)[j * 2 + 1]? = some (.pointer (es.getD j (⟨#[]⟩, none)).2) := by
  induction es generalizing j with
  | nil => simp at hj
  | cons e es ih =>
    have e1 : ecells (e :: es) = .string e.1 :: .pointer e.2 :: ecells es := rfl
    rw [e1]
    cases j with
    | zero => exact ⟨rfl, rfl⟩
    | succ j =>
      have := ih j (by simpa using hj)
      rw [show (j + 1) * 2 = j * 2 + 1 + 1 by omega, List.getElem?_cons_succ, List.getElem?_cons_succ, List.getElem?_cons_succ, List.getElem?_cons_succ, List.getD_cons_succ]
      exact this
theorem OwnS.cell {w : World} {B : Nat} {a : Option Addr} {n cap : Nat} {ls : List ByteArray} (h : OwnS w B a n cap ls) {j : Nat} (hj : j < n) : ∃ g, a = some ⟨g, 0, none⟩ ∧ w.cell? ⟨g, j, none⟩ = some (.string (ls.getD j ⟨#[]⟩)) := by
  obtain ⟨g, h1, h2⟩ := OwnR.at h (by omega)
  have := OwnS.len h
  refine ⟨g, h1, h2 _ _ ?_⟩
  rw [scells, List.getElem?_map, List.getElem?_eq_getElem (by omega), List.getD_eq_getElem?_getD, List.getElem?_eq_getElem (by omega)]; rfl
theorem OwnJ.cell {w : World} {B : Nat} {a : Option Addr} {n cap : Nat} {ls : List Int} (h : OwnJ w B a n cap ls) {j : Nat} (hj : j < n) : ∃ g, a = some ⟨g, 0, none⟩ ∧ w.cell? ⟨g, j, none⟩ = some (.int .i64 (ls.getD j 0)) := by
  obtain ⟨g, h1, h2⟩ := OwnR.at h (by omega)
  have := OwnJ.len h
  refine ⟨g, h1, h2 _ _ ?_⟩
  rw [jcells, List.getElem?_map, List.getElem?_eq_getElem (by omega), List.getD_eq_getElem?_getD, List.getElem?_eq_getElem (by omega)]; rfl
theorem OwnE.cell {w : World} {B : Nat} {a : Option Addr} {n cap : Nat} {es : List En} (h : OwnE w B a n cap es) {j : Nat} (hj : j < n) : ∃ g, a = some ⟨g, 0, none⟩ ∧ w.cell? ⟨g, j * 2, none⟩ = some (.string (es.getD j (⟨#[]⟩, none)).1) ∧ w.cell? ⟨g, j * 2 + 1, none⟩ = some (.pointer (es.getD j (⟨#[]⟩, none)).2) := by
  obtain ⟨g, h1, h2⟩ := OwnR.at h (by omega)
  have := OwnE.len h
  have := ecells_get es j (by omega)
  exact ⟨g, h1, h2 _ _ this.1, h2 _ _ this.2⟩
theorem append_e {w : World} {ops : Array Oper} {rest : List Oper} {o : Oper} {ac : Act} {Q : Exit → Act → World → Prop} (hgd : o.guard = none) (s x : Operand) (ho : o.op = .call { callee := .builtin .append, args := #[s, x], argTypes := #[310, 310] })
    (B : Nat) {a : Option Addr} {n cap : Nat} {ls : List En} (hs : ac.eval s = .slice a n cap) (hown : OwnE w B a n cap ls) {g : Nat} {k : ByteArray} {v : (Option Addr)} (hx : ac.eval x = .slice (some ⟨g, 0, none⟩) 1 1) (hr : w.cell? ⟨g, 0, none⟩ = some (.string k)) (hr2 : w.cell? ⟨g, 1, none⟩ = some (.pointer v)) (hb : n + 1 ≤ 1000000) (hB : B ≤ w.heap.size)
    (h : ∀ a2 n2 c2 w2, n2 = n + 1 → Hid (OwnE w2 B a2 n2 c2 (ls ++ [(k, v)])) → Hid (w.grownBy w2 (a.map (·.block))) → Hid (Goes w a a2) → wpList Tryz.prog ops Q rest (ac.put o.dst (.slice a2 n2 c2)) w2) : wpList Tryz.prog ops Q (o :: rest) ac w := by
  refine append_r hgd s x ho eltE B hs hown [.string k, .pointer v] hx rfl ?_ (by simp [Value.oneCell']) (by decide) (by omega) (by unfold maxLen; omega) hB ?_
  · intro j u hu
    match j with
    | 0 => rw [add_flat, hr]; exact hu
    | 1 => rw [add_flat, hr2]; exact hu
    | j + 2 => simp at hu
  · intro a2 n2 c2 w2 h1 h2
    rw [show ecells ls ++ [.string k, .pointer v] = ecells (ls ++ [(k, v)]) by rw [ecells_append]; rfl] at h2
    exact h a2 n2 c2 w2 h1 h2
end Go.Proofs.YtnajhjmdpaeelaaGreatDoor.Dk
