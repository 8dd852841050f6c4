/- Texts that the others stand on. -/
import Derived.Test.YtikimcbalkhooaaGreatJ5
import Derived.Test.YtikimcbalkhooaaGreatProg
import Derived.WalkKit
import Derived.WalkSpells
import Derived.PlainAid
import Derived.Laws.BitsAllLaws
import Derived.Deep.LoopGhost
import Derived.Deep.Cut
import Derived.Deep.RegionWith
import Derived.Deep.CutRange
import Derived.Deep.QuietTactic
import Derived.BigQuiet
import Derived.Elder7
import Derived.Deep.OwnRows
import Derived.Laws.AppendOwnNone
import Derived.Laws.Rows
import Derived.Laws.Tables
import Derived.Laws.IdiomStrings
import Derived.Lib.IndexBytes
import Derived.Deep.RegionHeld3
import Derived.Test.YtikimcbalkhooaaGreatJ6
import Derived.Maps.AppendAt
namespace Go.Proofs.YtikimcbalkhooaaGreat.Zs.Dk
open Go.Proofs.YtikimcbalkhooaaGreat.Dk
open Go.RowKit Go.PlainAid
abbrev Cl := Nat × ByteArray × Unit
abbrev En := ByteArray × Unit
abbrev noC : Cl := (128, ⟨#[]⟩, ())
def cel (z : List Cl) (q : Nat) : Cl := z.getD q noC
def wrd (z : List Cl) (g : Nat) : List Nat := ((z.drop (8 * g)).take 8).map (·.1)
def full (c : Cl) : Bool := decide (c.1 < 128)
def gone (c : Cl) : Bool := decide (c.1 = 254)
def ents (z : List Cl) : List En := (z.filter full).map (·.2)
def dels (z : List Cl) : Nat := (z.filter gone).length
theorem cel_at (z : List Cl) {q : Nat} (h : q < z.length) : cel z q = z[q] := by
 unfold cel; rw [List.getD_eq_getElem?_getD, List.getElem?_eq_getElem h]; rfl
theorem cel_set (z : List Cl) {q : Nat} (h : q < z.length) (c : Cl) : cel (z.set q c) q = c := by
 unfold cel; rw [List.getD_eq_getElem?_getD, List.getElem?_set_self h]; rfl
theorem cel_set_ne (z : List Cl) {q r : Nat} (h : q ≠ r) (c : Cl) : cel (z.set q c) r = cel z r := by
 unfold cel; rw [List.getD_eq_getElem?_getD, List.getElem?_set_ne h, List.getD_eq_getElem?_getD]
theorem cel_mem (z : List Cl) {q : Nat} (h : q < z.length) : cel z q ∈ z := by rw [cel_at z h]; exact List.getElem_mem h
theorem mem_cel {z : List Cl} {c : Cl} (h : c ∈ z) : ∃ q, q < z.length ∧ cel z q = c := by
 obtain ⟨q, hq, e⟩ := List.getElem_of_mem h
 exact ⟨q, hq, by rw [cel_at z hq]; exact e⟩
theorem wrd_get? (z : List Cl) (g i : Nat) : (wrd z g)[i]? = if i < 8 then z[8 * g + i]?.map (·.1) else none := by
 unfold wrd
 rw [List.getElem?_map, List.getElem?_take, List.getElem?_drop]
 split <;> rfl
theorem wrd_len {z : List Cl} {G g : Nat} (hz : z.length = 8 * G) (hg : g < G) : (wrd z g).length = 8 := by
 unfold wrd; rw [List.length_map, List.length_take, List.length_drop]; omega
theorem wrd_get {z : List Cl} {G g i : Nat} (hz : z.length = 8 * G) (hg : g < G) (hi : i < 8) : (wrd z g).getD i 0 = (cel z (8 * g + i)).1 := by
 rw [List.getD_eq_getElem?_getD, wrd_get?, if_pos hi, cel_at z (q := 8 * g + i) (by omega), List.getElem?_eq_getElem (by omega)]
 rfl
theorem wrd_ext {z : List Cl} {G g : Nat} (hz : z.length = 8 * G) (hg : g < G) (l : List Nat) (hl : l.length = 8) (h : ∀ i, i < 8 → (cel z (8 * g + i)).1 = l.getD i 0) : wrd z g = l := by
 apply List.ext_getElem?
 intro i
 by_cases hi : i < 8
 ·rw [wrd_get?, if_pos hi, List.getElem?_eq_getElem (by omega), List.getElem?_eq_getElem (by omega)]
  have := h i hi
  rw [cel_at z (by omega), List.getD_eq_getElem?_getD, List.getElem?_eq_getElem (by omega)] at this
  simpa using this
 ·rw [List.getElem?_eq_none (by rw [wrd_len hz hg]; omega), List.getElem?_eq_none (by omega)]
theorem wrd_set (z : List Cl) {g i : Nat} (hi : i < 8) (c : Cl) (h : 8 * g + i < z.length) : wrd (z.set (8 * g + i) c) g = (wrd z g).set i c.1 := by
 apply List.ext_getElem?
 intro j
 rw [wrd_get?]
 by_cases hij : i = j
 ·subst hij
  rw [if_pos hi, List.getElem?_set_self h, List.getElem?_set_self]
  ·rfl
  ·unfold wrd; rw [List.length_map, List.length_take, List.length_drop]; omega
 ·rw [List.getElem?_set_ne (by omega), List.getElem?_set_ne hij, wrd_get?]
theorem wrd_set_ne (z : List Cl) {g g' i : Nat} (hi : i < 8) (c : Cl) (h : g ≠ g') : wrd (z.set (8 * g + i) c) g' = wrd z g' := by
 apply List.ext_getElem?
 intro j
 rw [wrd_get?, wrd_get?]
 split
 ·rw [List.getElem?_set_ne (by omega)]
 ·rfl
theorem ents_append (a b : List Cl) : ents (a ++ b) = ents a ++ ents b := by unfold ents; rw [List.filter_append, List.map_append]
theorem dels_append (a b : List Cl) : dels (a ++ b) = dels a + dels b := by unfold dels; rw [List.filter_append, List.length_append]
theorem ents_cons_yes {c : Cl} (h : c.1 < 128) (l : List Cl) : ents (c :: l) = c.2 :: ents l := by unfold ents full; rw [List.filter_cons_of_pos (by simpa using h)]; rfl
theorem ents_cons_no {c : Cl} (h : 128 ≤ c.1) (l : List Cl) : ents (c :: l) = ents l := by unfold ents full; rw [List.filter_cons_of_neg (by simpa using h)]
theorem dels_cons_yes {c : Cl} (h : c.1 = 254) (l : List Cl) : dels (c :: l) = dels l + 1 := by unfold dels gone; rw [List.filter_cons_of_pos (by simpa using h)]; rfl
theorem dels_cons_no {c : Cl} (h : c.1 ≠ 254) (l : List Cl) : dels (c :: l) = dels l := by unfold dels gone; rw [List.filter_cons_of_neg (by simpa using h)]
theorem set_parts (z : List Cl) {q : Nat} (h : q < z.length) (c : Cl) : z.set q c = z.take q ++ c :: z.drop (q + 1) := by
 rw [List.set_eq_take_append_cons_drop, if_pos h]
theorem parts (z : List Cl) {q : Nat} (h : q < z.length) : z = z.take q ++ cel z q :: z.drop (q + 1) := by
 rw [cel_at z h, ← List.drop_eq_getElem_cons h, List.take_append_drop]
theorem mem_ents {z : List Cl} {e : En} : e ∈ ents z ↔ ∃ q, q < z.length ∧ (cel z q).1 < 128 ∧ (cel z q).2 = e := by
 unfold ents
 rw [List.mem_map]
 constructor
 ·rintro ⟨c, hc, rfl⟩
  rw [List.mem_filter] at hc
  obtain ⟨q, hq, rfl⟩ := mem_cel hc.1
  exact ⟨q, hq, by simpa [full] using hc.2, rfl⟩
 ·rintro ⟨q, hq, h1, rfl⟩
  exact ⟨cel z q, List.mem_filter.2 ⟨cel_mem z hq, by simpa [full] using h1⟩, rfl⟩
theorem ents_len_le (z : List Cl) : (ents z).length ≤ z.length := by unfold ents; rw [List.length_map]; exact List.length_filter_le _ _
theorem ents_lay {z : List Cl} {q : Nat} (h : q < z.length) (hf : 128 ≤ (cel z q).1) (c : Cl) (hc : c.1 < 128) : (ents (z.set q c)).Perm (ents z ++ [c.2]) := by
 conv => rhs; rw [parts z h]
 rw [set_parts z h, ents_append, ents_cons_yes hc, ents_append, ents_cons_no hf]
 refine List.Perm.trans List.perm_middle ?_
 exact (List.perm_append_singleton _ _).symm
theorem ents_turn {z : List Cl} {q : Nat} (h : q < z.length) (hf : (cel z q).1 < 128) (c : Cl) (hc : c.1 < 128) : ∃ a b, ents z = a ++ (cel z q).2 :: b ∧ ents (z.set q c) = a ++ c.2 :: b := by
 refine ⟨ents (z.take q), ents (z.drop (q + 1)), ?_, ?_⟩
 ·conv => lhs; rw [parts z h]
  rw [ents_append, ents_cons_yes hf]
 ·rw [set_parts z h, ents_append, ents_cons_yes hc]
theorem dels_set {z : List Cl} {q : Nat} (h : q < z.length) (c : Cl) : dels (z.set q c) + (if (cel z q).1 = 254 then 1 else 0) = dels z + (if c.1 = 254 then 1 else 0) := by
 conv => rhs; rw [parts z h]
 rw [set_parts z h, dels_append, dels_append]
 split
 ·split
  ·rw [dels_cons_yes (by assumption), dels_cons_yes (by assumption)]
  ·rw [dels_cons_no (by assumption), dels_cons_yes (by assumption)]; omega
 ·split
  ·rw [dels_cons_yes (by assumption), dels_cons_no (by assumption)]; omega
  ·rw [dels_cons_no (by assumption), dels_cons_no (by assumption)]
theorem all_len {z : List Cl} (h : ∀ c ∈ z, c.1 < 128 ∨ c.1 = 254) : (ents z).length + dels z = z.length := by
 induction z with
 | nil => rfl
 | cons c z ih =>
  have := ih (fun d hd => h d (by simp [hd]))
  rcases h c (by simp) with h1 | h1
  ·rw [ents_cons_yes h1, dels_cons_no (by omega), List.length_cons, List.length_cons]; omega
  ·rw [ents_cons_no (by omega), dels_cons_yes h1, List.length_cons]; omega
def hasE (z : List Cl) (g : Nat) : Bool := some? (has (wrd z g) 128) 8
theorem hasE_iff {z : List Cl} {G g : Nat} (hz : z.length = 8 * G) (hg : g < G) : hasE z g = true ↔ ∃ i, i < 8 ∧ (cel z (8 * g + i)).1 = 128 := by
 unfold hasE some?
 rw [List.any_eq_true]
 constructor
 ·rintro ⟨i, hi, h⟩
  rw [List.mem_range] at hi
  exact ⟨i, hi, by have := of_decide_eq_true h; rw [wrd_get hz hg hi] at this; exact this⟩
 ·rintro ⟨i, hi, h⟩
  exact ⟨i, List.mem_range.2 hi, decide_eq_true (by rw [wrd_get hz hg hi]; exact h)⟩
structure Inv (x G : Nat) (z : List Cl) : Prop where
 grp : isG G
 len : z.length = 8 * G
 byt : ∀ q, q < 8 * G → (cel z q).1 < 128 ∨ (cel z q).1 = 128 ∨ (cel z q).1 = 254
 sev : ∀ q, q < 8 * G → (cel z q).1 < 128 → (cel z q).1 = sev (hsh x (cel z q).2.1)
 way : ∀ q, q < 8 * G → (cel z q).1 < 128 → ∃ d, d < G ∧ gAt G (hsh x (cel z q).2.1) d = q / 8 ∧ ∀ j, j < d → hasE z (gAt G (hsh x (cel z q).2.1) j) = false
 nod : ((ents z).map (·.1)).Nodup
 room : (ents z).length + dels z ≤ 7 * G
theorem Inv.byt' {x G : Nat} {z : List Cl} (h : Inv x G z) : ∀ c ∈ z, c.1 < 256 := by
 intro c hc
 obtain ⟨q, hq, rfl⟩ := mem_cel hc
 rcases h.byt q (by rw [← h.len]; exact hq) with h1 | h1 | h1 <;> omega
theorem wrd_ok {z : List Cl} {G g : Nat} (hz : z.length = 8 * G) (hb : ∀ c ∈ z, c.1 < 256) (hg : g < G) : Ok (wrd z g) := by
 refine ⟨wrd_len hz hg, fun b hb' => ?_⟩
 unfold wrd at hb'
 obtain ⟨c, hc, rfl⟩ := List.mem_map.1 hb'
 exact hb c (List.mem_of_mem_drop (List.mem_of_mem_take hc))
theorem Inv.ok {x G : Nat} {z : List Cl} (h : Inv x G z) {g : Nat} (hg : g < G) : Ok (wrd z g) := wrd_ok h.len h.byt' hg
theorem Inv.empty {x G : Nat} {z : List Cl} (h : Inv x G z) : ∃ q, q < 8 * G ∧ (cel z q).1 = 128 := by
 apply Classical.byContradiction
 intro hn
 have h1 : ∀ c ∈ z, c.1 < 128 ∨ c.1 = 254 := by
  intro c hc
  obtain ⟨q, hq, rfl⟩ := mem_cel hc
  rw [h.len] at hq
  rcases h.byt q hq with h1 | h1 | h1
  ·exact .inl h1
  ·exact absurd ⟨q, hq, h1⟩ hn
  ·exact .inr h1
 have h2 := all_len h1
 have h3 := h.room
 have h4 := h.grp.pos
 rw [h.len] at h2
 omega
theorem Inv.stop {x G : Nat} {z : List Cl} (h : Inv x G z) {k : ByteArray} {j : Nat} (hno : ∀ i, i ≤ j → ∀ s, s < 8 → (cel z (8 * gAt G (hsh x k) i + s)).1 < 128 → (cel z (8 * gAt G (hsh x k) i + s)).2.1 ≠ k)
  (hj : hasE z (gAt G (hsh x k) j) = true ∨ G ≤ j + 1) : k ∉ (ents z).map (·.1) := by
 intro hk
 obtain ⟨e, he, hek⟩ := List.mem_map.1 hk
 obtain ⟨q, hq, hf, rfl⟩ := mem_ents.1 he
 rw [h.len] at hq
 obtain ⟨d, hd, h1, h2⟩ := h.way q hq hf
 subst hek
 have hd' : d ≤ j := by
  rcases hj with hj | hj
  ·apply Classical.byContradiction
   intro hh
   rw [h2 j (by omega)] at hj
   cases hj
  ·omega
 have := hno d hd' (q % 8) (Nat.mod_lt _ (by decide))
 rw [h1, show 8 * (q / 8) + q % 8 = q by omega] at this
 exact this hf rfl
theorem Inv.lay {x G : Nat} {z : List Cl} (h : Inv x G z) {k : ByteArray} (v : Unit) (hk : k ∉ (ents z).map (·.1)) {j i : Nat} (hj : j < G) (hi : i < 8)
  (hf : 128 ≤ (cel z (8 * gAt G (hsh x k) j + i)).1) (hno : ∀ j', j' < j → ∀ s, s < 8 → (cel z (8 * gAt G (hsh x k) j' + s)).1 < 128)
  (hr : (cel z (8 * gAt G (hsh x k) j + i)).1 = 254 ∨ (ents z).length + dels z < 7 * G) :
  Inv x G (z.set (8 * gAt G (hsh x k) j + i) (YtikimcbalkhooaaGreat.Dk.sev (hsh x k), k, v)) ∧ (ents (z.set (8 * gAt G (hsh x k) j + i) (YtikimcbalkhooaaGreat.Dk.sev (hsh x k), k, v))).Perm (ents z ++ [(k, v)]) ∧
  dels (z.set (8 * gAt G (hsh x k) j + i) (YtikimcbalkhooaaGreat.Dk.sev (hsh x k), k, v)) ≤ dels z := by
 have hg := gAt_lt h.grp.pos (hsh x k) j
 obtain ⟨g, eg⟩ : ∃ g, gAt G (hsh x k) j = g := ⟨_, rfl⟩
 rw [eg] at hf hr hg ⊢
 have hq : 8 * g + i < z.length := by rw [h.len]; omega
 have hs := sev_lt x k
 have hp := ents_lay hq hf (YtikimcbalkhooaaGreat.Dk.sev (hsh x k), k, v) hs
 have hd := dels_set hq (YtikimcbalkhooaaGreat.Dk.sev (hsh x k), k, v)
 rw [if_neg (show ¬ (YtikimcbalkhooaaGreat.Dk.sev (hsh x k), k, v).1 = 254 by simp only []; omega)] at hd
 generalize hc : ((YtikimcbalkhooaaGreat.Dk.sev (hsh x k), k, v) : Cl) = c at hp hd ⊢
 have hc1 : c.1 = YtikimcbalkhooaaGreat.Dk.sev (hsh x k) := by rw [← hc]
 have hc2 : c.2 = (k, v) := by rw [← hc]
 have hlen : (z.set (8 * g + i) c).length = 8 * G := by rw [List.length_set]; exact h.len
 have hE : ∀ g', g' < G → hasE z g' = false → hasE (z.set (8 * g + i) c) g' = false := by
  intro g' hg' h0
  apply Bool.eq_false_iff.2
  intro h1
  obtain ⟨s, hs', h2⟩ := (hasE_iff hlen hg').1 h1
  by_cases e : 8 * g + i = 8 * g' + s
  ·rw [← e, cel_set z hq] at h2
   omega
  ·rw [cel_set_ne z e] at h2
   rw [(hasE_iff h.len hg').2 ⟨s, hs', h2⟩] at h0
   cases h0
 refine ⟨⟨h.grp, hlen, ?_, ?_, ?_, ?_, ?_⟩, by rw [← hc2]; exact hp, by omega⟩
 ·intro q hq'
  by_cases e : 8 * g + i = q
  ·subst e; rw [cel_set z hq]; omega
  ·rw [cel_set_ne z e]; exact h.byt q hq'
 ·intro q hq'
  by_cases e : 8 * g + i = q
  ·subst e; rw [cel_set z hq]; intro _; rw [hc1, hc2]
  ·rw [cel_set_ne z e]; exact h.sev q hq'
 ·intro q hq'
  by_cases e : 8 * g + i = q
  ·subst e
   rw [cel_set z hq]
   intro _
   rw [hc2]
   refine ⟨j, hj, by rw [eg]; show g = (8 * g + i) / 8; omega, fun j' hj' => hE _ (gAt_lt h.grp.pos _ _) ?_⟩
   apply Bool.eq_false_iff.2
   intro h1
   obtain ⟨s, hs', h2⟩ := (hasE_iff h.len (gAt_lt h.grp.pos _ _)).1 h1
   have := hno j' hj' s hs'
   have h3 : (cel z (8 * gAt G (hsh x k) j' + s)).1 = 128 := h2
   omega
  ·rw [cel_set_ne z e]
   intro hf'
   obtain ⟨d, hd1, hd2, hd3⟩ := h.way q hq' hf'
   exact ⟨d, hd1, hd2, fun j' hj' => hE _ (gAt_lt h.grp.pos _ _) (hd3 j' hj')⟩
 ·have := hp.map (·.1)
  refine this.nodup_iff.2 ?_
  rw [List.map_append, List.nodup_append, hc2]
  refine ⟨h.nod, by simp, ?_⟩
  intro a ha b hb
  rw [List.map_cons, List.map_nil, List.mem_singleton] at hb
  subst hb
  rintro rfl
  exact hk ha
 ·have := hp.length_eq
  rw [List.length_append, List.length_singleton] at this
  rcases hr with hr | hr
  ·rw [if_pos hr] at hd
   have := h.room
   omega
  ·split at hd <;> omega
theorem Inv.turn {x G : Nat} {z : List Cl} (h : Inv x G z) {g i : Nat} (hg : g < G) (hi : i < 8) (hf : (cel z (8 * g + i)).1 < 128) (v : Unit) :
  Inv x G (z.set (8 * g + i) ((cel z (8 * g + i)).1, (cel z (8 * g + i)).2.1, v)) ∧ ∃ a b, ents z = a ++ (cel z (8 * g + i)).2 :: b ∧ ents (z.set (8 * g + i) ((cel z (8 * g + i)).1, (cel z (8 * g + i)).2.1, v)) = a ++ ((cel z (8 * g + i)).2.1, v) :: b := by
 have hq : 8 * g + i < z.length := by rw [h.len]; omega
 obtain ⟨a, b, h1, h2⟩ := ents_turn hq hf ((cel z (8 * g + i)).1, (cel z (8 * g + i)).2.1, v) hf
 have hd := dels_set hq ((cel z (8 * g + i)).1, (cel z (8 * g + i)).2.1, v)
 have hlen : (z.set (8 * g + i) ((cel z (8 * g + i)).1, (cel z (8 * g + i)).2.1, v)).length = 8 * G := by rw [List.length_set]; exact h.len
 have hW : ∀ g', wrd (z.set (8 * g + i) ((cel z (8 * g + i)).1, (cel z (8 * g + i)).2.1, v)) g' = wrd z g' := by
  intro g'
  by_cases e : g = g'
  ·subst e
   rw [wrd_set z hi _ hq]
   apply List.ext_getElem?
   intro s
   by_cases e : i = s
   ·subst e
    rw [List.getElem?_set_self (by rw [wrd_len h.len hg]; exact hi), wrd_get?, if_pos hi, cel_at z hq, List.getElem?_eq_getElem hq]
    rfl
   ·rw [List.getElem?_set_ne e]
  ·rw [wrd_set_ne z hi _ e]
 have hE : ∀ g', hasE (z.set (8 * g + i) ((cel z (8 * g + i)).1, (cel z (8 * g + i)).2.1, v)) g' = hasE z g' := by
  intro g'; unfold hasE; rw [hW]
 refine ⟨⟨h.grp, hlen, ?_, ?_, ?_, ?_, ?_⟩, a, b, h1, h2⟩
 ·intro q hq'
  by_cases e : 8 * g + i = q
  ·subst e; rw [cel_set z hq]; exact .inl hf
  ·rw [cel_set_ne z e]; exact h.byt q hq'
 ·intro q hq'
  by_cases e : 8 * g + i = q
  ·subst e; rw [cel_set z hq]; intro _; exact h.sev _ hq' hf
  ·rw [cel_set_ne z e]; exact h.sev q hq'
 ·intro q hq'
  by_cases e : 8 * g + i = q
  ·subst e; rw [cel_set z hq]; intro _
   obtain ⟨d, hd1, hd2, hd3⟩ := h.way _ hq' hf
   exact ⟨d, hd1, hd2, fun j' hj' => by rw [hE]; exact hd3 j' hj'⟩
  ·rw [cel_set_ne z e]
   intro hf'
   obtain ⟨d, hd1, hd2, hd3⟩ := h.way q hq' hf'
   exact ⟨d, hd1, hd2, fun j' hj' => by rw [hE]; exact hd3 j' hj'⟩
 ·have := h.nod
  rw [h1] at this
  rw [h2]
  simpa using this
 ·have := h.room
  rw [h1] at this
  rw [h2]
  simp only [List.length_append, List.length_cons] at this ⊢
  simp only [] at hd
  omega
def news0 (G : Nat) : List Cl := List.replicate (8 * G) noC
theorem cel_news0 (G q : Nat) : cel (news0 G) q = noC := by
 unfold cel news0
 rw [List.getD_eq_getElem?_getD, List.getElem?_replicate]
 split <;> rfl
theorem ents_news0 (G : Nat) : ents (news0 G) = [] := by
 unfold ents news0
 rw [List.filter_replicate, if_neg (by decide)]; rfl
theorem dels_news0 (G : Nat) : dels (news0 G) = 0 := by
 unfold dels news0
 rw [List.filter_replicate, if_neg (by decide)]; rfl
theorem Inv.news (x : Nat) {G : Nat} (hG : isG G) : Inv x G (news0 G) := by
 refine ⟨hG, by simp [news0], ?_, ?_, ?_, ?_, ?_⟩
 ·intro q _; rw [cel_news0]; exact .inr (.inl rfl)
 ·intro q _ h; rw [cel_news0] at h; simp at h
 ·intro q _ h; rw [cel_news0] at h; simp at h
 ·rw [ents_news0]; exact List.nodup_nil
 ·rw [ents_news0, dels_news0]; simp
structure Grid (cs : Array Value) (G : Nat) (z : List Cl) : Prop where
 size : cs.size = 9 * G
 word : ∀ g, g < G → cs[g * 9]? = some (.int .u64 (val (wrd z g) : Nat))
 key : ∀ g i, g < G → i < 8 → cs[g * 9 + 1 + i]? = some (.string (cel z (8 * g + i)).2.1)
structure Row (w : World) (b G : Nat) (z : List Cl) : Prop where
 ex : ∃ cs, w.heap[b]? = some (.cells cs 205 (0, 0)) ∧ Grid cs G z
theorem Row.lt {w : World} {b G : Nat} {z : List Cl} (h : Row w b G z) : b < w.heap.size := by
 obtain ⟨cs, h1, -⟩ := h.ex
 exact (Array.getElem?_eq_some_iff.1 h1).1
theorem Row.kept {w wn : World} {b G : Nat} {z : List Cl} (h : Row w b G z) (hb : wn.heap[b]? = w.heap[b]?) : Row wn b G z := by
 obtain ⟨cs, h1, h2⟩ := h.ex
 exact ⟨cs, by rw [hb]; exact h1, h2⟩
theorem Row.keep {w wn : World} {b G : Nat} {z : List Cl} (h : Row w b G z) (hb : Below w.heap.size w wn) : Row wn b G z := h.kept (hb.block b h.lt)
theorem Row.word {w : World} {b G : Nat} {z : List Cl} (h : Row w b G z) {g : Nat} (hg : g < G) : w.cell? ⟨b, g * 9, none⟩ = some (.int .u64 (val (wrd z g) : Nat)) := by
 obtain ⟨cs, h1, h2⟩ := h.ex
 simp only [World.cell?, h1]
 exact h2.word g hg
theorem Row.key {w : World} {b G : Nat} {z : List Cl} (h : Row w b G z) {g i : Nat} (hg : g < G) (hi : i < 8) : w.cell? ⟨b, g * 9 + 1 + i, none⟩ = some (.string (cel z (8 * g + i)).2.1) := by
 obtain ⟨cs, h1, h2⟩ := h.ex
 simp only [World.cell?, h1]
 exact h2.key g i hg hi
theorem Row.frozen {w : World} {b G : Nat} {z : List Cl} (h : Row w b G z) (o : Nat) : w.frozen? ⟨b, o, none⟩ = false := by
 obtain ⟨cs, h1, h2⟩ := h.ex
 simp [World.frozen?, h1]
theorem Grid.put {cs : Array Value} {G : Nat} {z z' : List Cl} (h : Grid cs G z) (o : Nat) (v : Value)
  (h1 : ∀ g, g < G → if o = g * 9 then some v = some (.int .u64 (val (wrd z' g) : Nat)) else wrd z' g = wrd z g)
  (h2 : ∀ g i, g < G → i < 8 → if o = g * 9 + 1 + i then some v = some (.string (cel z' (8 * g + i)).2.1) else (cel z' (8 * g + i)).2.1 = (cel z (8 * g + i)).2.1) : Grid (cs.setIfInBounds o v) G z' := by
 have hs := h.size
 refine ⟨by simpa using hs, ?_, ?_⟩
 ·intro g hg
  have := h1 g hg
  split at this
  ·rename_i e
   subst e
   rw [Array.getElem?_setIfInBounds_self_of_lt (by omega)]
   exact this
  ·rw [Array.getElem?_setIfInBounds_ne (by assumption), this]
   exact h.word g hg
 ·intro g i hg hi
  have := h2 g i hg hi
  split at this
  ·rename_i e
   subst e
   rw [Array.getElem?_setIfInBounds_self_of_lt (by omega)]
   exact this
  ·rw [Array.getElem?_setIfInBounds_ne (by assumption), this]
   exact h.key g i hg hi
theorem Row.byte {w : World} {b G : Nat} {z : List Cl} (h : Row w b G z) (hz : z.length = 8 * G) {g i : Nat} (hg : g < G) (hi : i < 8) (c : Nat) :
  Row (w.setCell ⟨b, g * 9, none⟩ (.int .u64 (val ((wrd z g).set i c) : Nat))) b G (z.set (8 * g + i) (c, (cel z (8 * g + i)).2)) := by
 obtain ⟨cs, h1, h2⟩ := h.ex
 have hq : 8 * g + i < z.length := by omega
 have hc : ∀ q, (cel (z.set (8 * g + i) (c, (cel z (8 * g + i)).2)) q).2 = (cel z q).2 := by
  intro q
  by_cases e : 8 * g + i = q
  ·subst e; rw [cel_set z hq]
  ·rw [cel_set_ne z e]
 refine ⟨_, heap_set h1 _, h2.put _ _ ?_ ?_⟩
 ·intro g' hg'
  split
  ·have : g' = g := by omega
   subst this
   rw [wrd_set z hi _ hq]
  ·rw [wrd_set_ne z hi _ (by rintro rfl; contradiction)]
 ·intro g' i' hg' hi'
  rw [if_neg (by omega), hc]
theorem Row.setKey {w : World} {b G : Nat} {z : List Cl} (h : Row w b G z) (hz : z.length = 8 * G) {g i : Nat} (hg : g < G) (hi : i < 8) (k : ByteArray) :
  Row (w.setCell ⟨b, g * 9 + 1 + i, none⟩ (.string k)) b G (z.set (8 * g + i) ((cel z (8 * g + i)).1, k, (cel z (8 * g + i)).2.2)) := by
 obtain ⟨cs, h1, h2⟩ := h.ex
 have hq : 8 * g + i < z.length := by omega
 have hw : ∀ g', g' < G → wrd (z.set (8 * g + i) ((cel z (8 * g + i)).1, k, (cel z (8 * g + i)).2.2)) g' = wrd z g' := by
  intro g' hg'
  refine wrd_ext (G := G) (by rw [List.length_set]; exact hz) hg' _ (wrd_len hz hg') (fun s hs => ?_)
  rw [wrd_get hz hg' hs]
  by_cases e : 8 * g + i = 8 * g' + s
  ·rw [← e, cel_set z hq]
  ·rw [cel_set_ne z e]
 refine ⟨_, heap_set h1 _, h2.put _ _ ?_ ?_⟩
 ·intro g' hg'
  rw [if_neg (by omega), hw g' hg']
 ·intro g' i' hg' hi'
  split
  ·have : 8 * g' + i' = 8 * g + i := by omega
   rw [this, cel_set z hq]
  ·rw [cel_set_ne z (by omega)]
theorem Row.setVal {w : World} {b G : Nat} {z : List Cl} (h : Row w b G z) (hz : z.length = 8 * G) {g i : Nat} (hg : g < G) (hi : i < 8) (v : Unit) : Row w b G (z.set (8 * g + i) ((cel z (8 * g + i)).1, (cel z (8 * g + i)).2.1, v)) := by
 have e : z.set (8 * g + i) ((cel z (8 * g + i)).1, (cel z (8 * g + i)).2.1, v) = z := by
  show z.set (8 * g + i) (cel z (8 * g + i)) = z
  rw [cel_at z (by omega), List.set_getElem_self]
 rw [e]
 exact h
theorem Row.slot {w : World} {b G : Nat} {z : List Cl} (h : Row w b G z) (hz : z.length = 8 * G) {g i : Nat} (hg : g < G) (hi : i < 8) (k : ByteArray) (v : Unit) :
  Row (w.setCell ⟨b, g * 9 + 1 + i, none⟩ (.string k)) b G (z.set (8 * g + i) ((cel z (8 * g + i)).1, k, v)) := h.setKey hz hg hi k
def isGS (t : TypeId) : Bool := t == 205 || t == 202
theorem gs_cells : ∀ t, isGS t = true → Tryz.prog.cellsOf t ≠ 0 ∧ ∀ o, o < Tryz.prog.cellsOf t → (byteOfCell Tryz.prog Tryz.prog.depth t o).isSome = true := by
 intro t ht
 unfold isGS at ht
 simp only [Bool.or_eq_true, beq_iff_eq] at ht
 rcases ht with rfl | rfl
 ·have h1 : Tryz.prog.cellsOf 205 = 9 := by kernel_rfl
  rw [h1]
  exact ⟨by decide, by decide +kernel⟩
 ·have h1 : Tryz.prog.cellsOf 202 = 1 := by kernel_rfl
  rw [h1]
  exact ⟨by decide, by decide +kernel⟩
theorem run_byteOf (t : TypeId) (ht : isGS t = true) (b o : Nat) : ∃ n, ∀ (w : World) (cs : Array Value) (m : Nat × Nat), w.heap[b]? = some (.cells cs t m) → Sem.run Tryz.prog (byteOf ⟨b, o, none⟩) w = .ok n w := by
 obtain ⟨h0, h1⟩ := gs_cells t ht
 obtain ⟨y, hy⟩ := Option.isSome_iff_exists.1 (h1 (o % Tryz.prog.cellsOf t) (Nat.mod_lt _ (Nat.pos_of_ne_zero h0)))
 refine ⟨o / Tryz.prog.cellsOf t * Tryz.prog.bytesOf t + y, fun w cs m h => ?_⟩
 have hs : w.shape? b = some (t, cs.size) := by simp [World.shape?, h]
 unfold byteOf
 simp [hs, h0, hy, noView, viewAt, Result.andThen]
theorem run_partAt (t : TypeId) (ht : isGS t = true) (b o c y : Nat) : ∃ a, ∀ (w : World) (cs : Array Value) (m : Nat × Nat), w.heap[b]? = some (.cells cs t m) → Sem.run Tryz.prog (partAt ⟨b, o, none⟩ c y) w = .ok a w := by
 obtain ⟨n1, h1⟩ := run_byteOf t ht b o
 obtain ⟨n2, h2⟩ := run_byteOf t ht b (o + c)
 refine ⟨if n2 = n1 + y then ⟨b, o + c, none⟩ else ⟨b, o + c, some (n1 + y)⟩, fun w cs m h => ?_⟩
 unfold partAt
 simp [h1 w cs m h, h2 w cs m h, Result.andThen]
theorem Row.spot (b o c y : Nat) : ∃ a, ∀ (w : World) (G : Nat) (z : List Cl), Row w b G z → Sem.run Tryz.prog (partAt ⟨b, o, none⟩ c y) w = .ok a w := by
 obtain ⟨a, h⟩ := run_partAt 205 rfl b o c y
 refine ⟨a, fun w G z hR => ?_⟩
 obtain ⟨cs, h1, -⟩ := hR.ex
 exact h w cs _ h1
structure Top (w : World) (p b x G : Nat) : Prop where
 blk : w.heap[p]? = some (.cells #[.int .u64 (x : Nat), .slice (some ⟨b, 0, none⟩) G G] 200 (0, 0))
theorem Top.lt {w : World} {p b x G : Nat} (h : Top w p b x G) : p < w.heap.size := (Array.getElem?_eq_some_iff.1 h.blk).1
theorem Top.kept {w wn : World} {p b x G : Nat} (h : Top w p b x G) (hb : wn.heap[p]? = w.heap[p]?) : Top wn p b x G := ⟨by rw [hb]; exact h.blk⟩
theorem Top.keep {w wn : World} {p b x G : Nat} (h : Top w p b x G) (hb : Below w.heap.size w wn) : Top wn p b x G := h.kept (hb.block p h.lt)
theorem Top.seed {w : World} {p b x G : Nat} (h : Top w p b x G) : w.cell? ⟨p, 0, none⟩ = some (.int .u64 (x : Nat)) := by simp [World.cell?, h.blk]
theorem Top.groups {w : World} {p b x G : Nat} (h : Top w p b x G) : w.cell? ⟨p, 1, none⟩ = some (.slice (some ⟨b, 0, none⟩) G G) := by simp [World.cell?, h.blk]
theorem Top.frozen {w : World} {p b x G : Nat} (h : Top w p b x G) (o : Nat) : w.frozen? ⟨p, o, none⟩ = false := by simp [World.frozen?, h.blk]
theorem Top.set {w : World} {p b x G : Nat} (h : Top w p b x G) (b' G' : Nat) : Top (w.setCell ⟨p, 1, none⟩ (.slice (some ⟨b', 0, none⟩) G' G')) p b' x G' := ⟨by rw [heap_set h.blk]; rfl⟩
theorem Top.ne {w : World} {p b x G b' G' : Nat} {z : List Cl} (h : Top w p b x G) (h' : Row w b' G' z) : p ≠ b' := by
 rintro rfl
 obtain ⟨cs, h1, -⟩ := h'.ex
 have := h.blk
 rw [h1] at this
 simp at this
structure Tab (w : World) (B p b x G : Nat) (z : List Cl) : Prop where
 top : Top w p b x G
 row : Row w b G z
 low : B ≤ p
 lowb : B ≤ b
 inv : Inv x G z
 seed : x < 18446744073709551616
 siz : ∀ e ∈ ents z, e.1.size ≤ maxLen
theorem Tab.keep {w wn : World} {B p b x G : Nat} {z : List Cl} (h : Tab w B p b x G z) (hb : Below w.heap.size w wn) : Tab wn B p b x G z := ⟨h.top.keep hb, h.row.keep hb, h.low, h.lowb, h.inv, h.seed, h.siz⟩
theorem home_any (p b x G h : Nat) (w : World) (hT : Top w p b x G) (hG : isG G) (hh : h < 18446744073709551616) :
  Calls Tryz.prog 205 #[ptr p, .int .u64 h] w fun e w' => e = .returned (.int .i64 (gAt G h 0 : Nat)) ∧ w' = w := by
 have hc := hT.groups
 have hG16 := hG.le
 have hG0 := hG.pos
 have hlt := gAt_lt hG0 h 0
 have e : (h : Int) / 65536 % (G : Int) = (gAt G h 0 : Nat) := by unfold gAt; simp
 generalize gAt G h 0 = g at e hlt ⊢
 clear hT hG
 go_enter Tryz.func205, Tryz.ntmps205
 go_wp2
 go_ret
 exact ⟨rfl, rfl⟩
theorem next_any (p b x G g : Nat) (w : World) (hT : Top w p b x G) (hG : isG G) (hg : g < G) :
  Calls Tryz.prog 206 #[ptr p, .int .i64 g] w fun e w' => e = .returned (.int .i64 ((g + 1) % G : Nat)) ∧ w' = w := by
 have hc := hT.groups
 have hG16 := hG.le
 have hG0 := hG.pos
 have e : ((g : Int) + 1).tmod (G : Int) = ((g + 1) % G : Nat) := by
  rw [show ((g : Int) + 1) = ((g + 1 : Nat) : Int) by omega]
  exact (Int.ofNat_tmod (g + 1) G).symm
 have hlt : (g + 1) % G < G := Nat.mod_lt _ hG0
 generalize (g + 1) % G = q at e hlt ⊢
 clear hT hG
 go_enter Tryz.func206, Tryz.ntmps206
 go_wp2
 go_ret
 exact ⟨rfl, rfl⟩
def OwnR (w : World) (B : Nat) (e : TypeId) (s : Nat) (a : Option Addr) (n cap : Nat) (cs : List Value) : Prop := w.ownsRow B e s (.slice a n cap) n cs
theorem OwnR.nil (w : World) (B : Nat) (e : TypeId) (s : Nat) : OwnR w B e s none 0 0 [] := World.ownsRow_nil w B e s
theorem OwnR.len {w : World} {B : Nat} {e : TypeId} {s : Nat} {a : Option Addr} {n cap : Nat} {cs : List Value} (h : OwnR w B e s a n cap cs) : cs.length = n * s := h.1
theorem OwnR.lt {w : World} {B : Nat} {e : TypeId} {s : Nat} {a : Option Addr} {n cap : Nat} {cs : List Value} (h : OwnR w B e s a n cap cs) {k : Nat} (hk : a.map (·.block) = some k) : B ≤ k ∧ k < w.heap.size ∧ ∃ cur, w.heap[k]? = some (.cells cur e (0, 0)) := by
 rcases h.2 with ⟨h2, h3⟩ | ⟨g, c, cur, h1, h3, h4, h5⟩
 ·cases h2; cases hk
 ·cases h1
  cases hk
  exact ⟨h3, (Array.getElem?_eq_some_iff.1 h4).1, cur, h4⟩
theorem OwnR.kept {w wn : World} {B : Nat} {e : TypeId} {s : Nat} {a : Option Addr} {n cap : Nat} {cs : List Value} (h : OwnR w B e s a n cap cs) (hb : ∀ k, a.map (·.block) = some k → wn.heap[k]? = w.heap[k]?) : OwnR wn B e s a n cap cs := by
 refine ⟨h.1, ?_⟩
 rcases h.2 with h2 | ⟨g, c, cur, h1, h3, h4, h5⟩
 ·exact .inl h2
 ·refine .inr ⟨g, c, cur, h1, h3, ?_, h5⟩
  cases h1
  rw [hb g rfl]; exact h4
theorem OwnR.keep {w wn : World} {B : Nat} {e : TypeId} {s : Nat} {a : Option Addr} {n cap : Nat} {cs : List Value} (h : OwnR w B e s a n cap cs) (hb : Below w.heap.size w wn) : OwnR wn B e s a n cap cs :=
 h.kept fun k hk => hb.block k (h.lt hk).2.1
theorem OwnR.low {w : World} {B C : Nat} {e : TypeId} {s : Nat} {a : Option Addr} {n cap : Nat} {cs : List Value} (h : OwnR w B e s a n cap cs) (hC : C ≤ B) : OwnR w C e s a n cap cs := by
 refine ⟨h.1, ?_⟩
 rcases h.2 with h2 | ⟨g, c, cur, h1, h3, h4⟩
 ·exact .inl h2
 ·exact .inr ⟨g, c, cur, h1, Nat.le_trans hC h3, h4⟩
theorem OwnR.cap {w : World} {B : Nat} {e : TypeId} {s : Nat} {a : Option Addr} {n cap : Nat} {cs : List Value} (h : OwnR w B e s a n cap cs) : n ≤ cap ∧ cap ≤ maxLen := by
 rcases h.2 with ⟨h2, h3⟩ | ⟨g, c, cur, h1, h3, h4, h5, h6, h7⟩
 ·cases h2; exact ⟨by omega, by decide⟩
 ·cases h1; exact ⟨h5, h6⟩
theorem OwnR.at {w : World} {B : Nat} {e : TypeId} {s : Nat} {a : Option Addr} {n cap : Nat} {cs : List Value} (h : OwnR w B e s a n cap cs) (hn : 0 < n) : ∃ g, a = some ⟨g, 0, none⟩ ∧ ∀ j u, cs[j]? = some u → w.cell? ⟨g, j, none⟩ = some u := by
 rcases h.2 with ⟨h2, h3⟩ | ⟨g, c, cur, h1, h3, h4, h5, h6, h7, h8⟩
 ·omega
 ·cases h1
  refine ⟨g, rfl, fun j u hu => ?_⟩
  have := World.ownsRow.cells (w := w) h (g := g) rfl j u hu
  rw [add_flat, Nat.zero_add] at this
  exact this
theorem run_append_r (w : World) (B : Nat) {t e : TypeId} {s by8 : Nat} (F : Elt t e s by8) {a : Option Addr} {n cap : Nat} {cs : List Value} (hown : OwnR w B e s a n cap cs) {ad : Addr} {m c : Nat} (news : List Value) (hl : news.length = m * s)
  (hnews : ∀ j u, news[j]? = some u → w.cell? (ad.add j) = some u) (h1 : ∀ u ∈ news, u.oneCell' = true) (hm : 0 < m) (hb : (n + m) * by8 ≤ 140737488355328) (h63 : n + m ≤ maxLen) (hB : B ≤ w.heap.size) (ty : TypeId) :
  ∃ a2 c2 w2, (Builtin.append_ #[t, t] ty #[.slice a n cap, .slice (some ad) m c]).run Tryz.prog w = .ok (.slice a2 (n + m) c2) w2 ∧ OwnR w2 B e s a2 (n + m) c2 (cs ++ news) ∧ w.grownBy w2 (a.map (·.block)) ∧ Goes w a a2 := by
 obtain ⟨i, z, hi, hz0, hz1, hz2, hz3⟩ := F.inf
 obtain ⟨v', w', k1, k2, k3, -, k5⟩ := run_append_own_at (P := Tryz.prog) w B t ty e i z s by8 F.und hi hz0 hz1 hz2 hz3 F.pos (.slice a n cap) n cs hown ad m c news hl hnews h1 h63 hb hB
 have hblk : (Value.slice a n cap).ownBlock = a.map (·.block) := by cases a <;> rfl
 rw [hblk] at k3 k5
 rcases k2.2 with ⟨rfl, h4⟩ | ⟨g2, c2, cur, rfl, h4⟩
 ·omega
 ·exact ⟨_, _, w', k1, k2, k3, k5⟩
theorem append_r {w : World} {ops : Array Oper} {rest : List Oper} {o : Oper} {ac : Act} {Q : Exit → Act → World → Prop} (hgd : o.guard = none) (s x : Operand) {t e : TypeId} {sz by8 : Nat} (ho : o.op = .call { callee := .builtin .append, args := #[s, x], argTypes := #[t, t] })
  (F : Elt t e sz by8) (B : Nat) {a : Option Addr} {n cap : Nat} {cs : List Value} (hs : ac.eval s = .slice a n cap) (hown : OwnR w B e sz a n cap cs) {ad : Addr} {m c : Nat} (news : List Value) (hx : ac.eval x = .slice (some ad) m c) (hl : news.length = m * sz)
  (hnews : ∀ j u, news[j]? = some u → w.cell? (ad.add j) = some u) (h1 : ∀ u ∈ news, u.oneCell' = true) (hm : 0 < m) (hb : (n + m) * by8 ≤ 140737488355328) (h63 : n + m ≤ maxLen) (hB : B ≤ w.heap.size)
  (h : ∀ a2 n2 c2 w2, n2 = n + m → Hid (OwnR w2 B e sz a2 n2 c2 (cs ++ news)) → Hid (w.grownBy w2 (a.map (·.block))) → Hid (Goes w a a2) → wpList Tryz.prog ops Q rest (ac.put o.dst (.slice a2 n2 c2)) w2) : wpList Tryz.prog ops Q (o :: rest) ac w := by
 obtain ⟨a2, c2, w2, h1, h2, h3, h4⟩ := run_append_r w B F hown (c := c) news hl hnews h1 hm hb h63 hB o.type
 refine wpList_plain hgd fun K hK => ?_
 unfold Oper.wp
 simp [execOp, ho, resolve, invoke, builtin, hs, hx, h1, Result.andThen]
 exact hK _ _ (h a2 _ c2 w2 rfl h2 h3 h4)
theorem OwnR.below {w w2 : World} {B : Nat} {e : TypeId} {s : Nat} {a : Option Addr} {n cap : Nat} {cs : List Value} (h : OwnR w B e s a n cap cs) (hg : w.grownBy w2 (a.map (·.block))) (hB : B ≤ w.heap.size) : Below B w w2 :=
 (Below.refl B w).grown hg hB (fun _ hk => (h.lt hk).1)
theorem Tab.moves {w w' : World} {B p b x G q b' : Nat} {z : List Cl} (h : Tab w B p b x G z) (hm : Moves w w' q b') (h1 : p ≠ q) (h2 : b ≠ b') (h3 : p ≠ b') (h4 : b ≠ q) : Tab w' B p b x G z :=
 ⟨h.top.kept (hm.block p h.top.lt h1 h3), h.row.kept (hm.block b h.row.lt h4 h2), h.low, h.lowb, h.inv, h.seed, h.siz⟩
theorem OwnR.moves {w w' : World} {B C p b x G : Nat} {z : List Cl} {e : TypeId} {s : Nat} {a : Option Addr} {n cap : Nat} {cs : List Value} (h : OwnR w C e s a n cap cs) (hm : Moves w w' p b) (hT : Tab w B p b x G z) (h1 : e ≠ 200) (h2 : e ≠ 205) : OwnR w' C e s a n cap cs :=
 h.kept fun k hk => by
  obtain ⟨-, hlt, cur, h3⟩ := h.lt hk
  refine hm.block k hlt ?_ ?_
  ·rintro rfl
   rw [hT.top.blk] at h3
   simp at h3
   exact h1 h3.2.symm
  ·rintro rfl
   obtain ⟨cs, h4, -⟩ := hT.row.ex
   rw [h4] at h3
   simp at h3
   exact h2 h3.2.symm
def ecells (es : List En) : List Value := es.flatMap fun e => [.string e.1]
abbrev OwnS (w : World) (B : Nat) (a : Option Addr) (n cap : Nat) (ls : List ByteArray) : Prop := OwnR w B 9 1 a n cap (scells ls)
abbrev OwnE (w : World) (B : Nat) (a : Option Addr) (n cap : Nat) (es : List En) : Prop := OwnR w B 202 1 a n cap (ecells es)
theorem Tryz.infoE : (Tryz.prog.info? 202).map (fun i => (i.zero, i.size, i.bytes)) = some (some (.agg #[.string ⟨#[]⟩]), 1, 24) := by kernel_rfl
theorem eltE : Elt 248 202 1 24 := elt_of Tryz.underlying248 Tryz.infoE rfl (by decide)
theorem ecells_append (l r : List En) : ecells (l ++ r) = ecells l ++ ecells r := List.flatMap_append ..
theorem OwnS.len {w : World} {B : Nat} {a : Option Addr} {n cap : Nat} {ls : List ByteArray} (h : OwnS w B a n cap ls) : ls.length = n := by have := OwnR.len h; simpa [scells] using this
theorem ecells_len (es : List En) : (ecells es).length = es.length := by
 induction es with
 | nil => rfl
 | cons e es ih => rw [ecells, List.flatMap_cons, List.length_append, List.length_cons]; rw [ecells] at ih; rw [ih]; simp; omega
theorem OwnE.len {w : World} {B : Nat} {a : Option Addr} {n cap : Nat} {es : List En} (h : OwnE w B a n cap es) : es.length = n := by have := OwnR.len h; rw [ecells_len] at this; omega
theorem ecells_get (es : List En) (j : Nat) (hj : j < es.length) : (ecells es)[j]? = some (.string (es.getD j (⟨#[]⟩, ())).1) := by
 induction es generalizing j with
 | nil => simp at hj
 | cons e es ih =>
  have e1 : ecells (e :: es) = .string e.1 :: ecells es := rfl
  rw [e1]
  cases j with
  | zero => rfl
  | succ j =>
   have := ih j (by simpa using hj)
   rw [List.getElem?_cons_succ, List.getD_cons_succ]
   exact this
theorem OwnE.cell {w : World} {B : Nat} {a : Option Addr} {n cap : Nat} {es : List En} (h : OwnE w B a n cap es) {j : Nat} (hj : j < n) : ∃ g, a = some ⟨g, 0, none⟩ ∧ w.cell? ⟨g, j, none⟩ = some (.string (es.getD j (⟨#[]⟩, ())).1) := by
 obtain ⟨g, h1, h2⟩ := OwnR.at h (by omega)
 have := OwnE.len h
 exact ⟨g, h1, h2 _ _ (ecells_get es j (by omega))⟩
theorem append_s {w : World} {ops : Array Oper} {rest : List Oper} {o : Oper} {ac : Act} {Q : Exit → Act → World → Prop} (hgd : o.guard = none) (s x : Operand) (ho : o.op = .call { callee := .builtin .append, args := #[s, x], argTypes := #[23, 23] })
  (B : Nat) {a : Option Addr} {n cap : Nat} {ls : List ByteArray} (hs : ac.eval s = .slice a n cap) (hown : OwnS w B a n cap ls) {g : Nat} {k : ByteArray} (hx : ac.eval x = .slice (some ⟨g, 0, none⟩) 1 1) (hr : w.cell? ⟨g, 0, none⟩ = some (.string k)) (hb : n + 1 ≤ 1000000) (hB : B ≤ w.heap.size)
  (h : ∀ a2 n2 c2 w2, n2 = n + 1 → Hid (OwnS w2 B a2 n2 c2 (ls ++ [k])) → Hid (w.grownBy w2 (a.map (·.block))) → Hid (Goes w a a2) → wpList Tryz.prog ops Q rest (ac.put o.dst (.slice a2 n2 c2)) w2) : wpList Tryz.prog ops Q (o :: rest) ac w := by
 refine append_r hgd s x ho eltS B hs hown [.string k] hx rfl ?_ (by simp [Value.oneCell']) (by decide) (by omega) (by unfold maxLen; omega) hB ?_
 ·intro j u hu
  cases j with
  | zero => rw [add_flat, hr]; exact hu
  | succ j => simp at hu
 ·intro a2 n2 c2 w2 h1 h2
  rw [show scells ls ++ [.string k] = scells (ls ++ [k]) by rw [scells_append]; rfl] at h2
  exact h a2 n2 c2 w2 h1 h2
theorem append_e {w : World} {ops : Array Oper} {rest : List Oper} {o : Oper} {ac : Act} {Q : Exit → Act → World → Prop} (hgd : o.guard = none) (s x : Operand) (ho : o.op = .call { callee := .builtin .append, args := #[s, x], argTypes := #[248, 248] })
  (B : Nat) {a : Option Addr} {n cap : Nat} {ls : List En} (hs : ac.eval s = .slice a n cap) (hown : OwnE w B a n cap ls) {g : Nat} {k : ByteArray} {v : Unit} (hx : ac.eval x = .slice (some ⟨g, 0, none⟩) 1 1) (hr : w.cell? ⟨g, 0, none⟩ = some (.string k)) (hb : n + 1 ≤ 1000000) (hB : B ≤ w.heap.size)
  (h : ∀ a2 n2 c2 w2, n2 = n + 1 → Hid (OwnE w2 B a2 n2 c2 (ls ++ [(k, v)])) → Hid (w.grownBy w2 (a.map (·.block))) → Hid (Goes w a a2) → wpList Tryz.prog ops Q rest (ac.put o.dst (.slice a2 n2 c2)) w2) : wpList Tryz.prog ops Q (o :: rest) ac w := by
 refine append_r hgd s x ho eltE B hs hown [.string k] hx rfl ?_ (by simp [Value.oneCell']) (by decide) (by omega) (by unfold maxLen; omega) hB ?_
 ·intro j u hu
  match j with
  | 0 => rw [add_flat, hr]; exact hu
  | j + 1 => simp at hu
 ·intro a2 n2 c2 w2 h1 h2
  rw [show ecells ls ++ [.string k] = ecells (ls ++ [(k, v)]) by rw [ecells_append]; rfl] at h2
  exact h a2 n2 c2 w2 h1 h2
def grp (z : List Cl) (g : Nat) : List Cl := (z.drop (8 * g)).take 8
theorem take_grp (z : List Cl) (g : Nat) : z.take (8 * (g + 1)) = z.take (8 * g) ++ grp z g := by
 rw [show 8 * (g + 1) = 8 * g + 8 by omega, List.take_add]; rfl
theorem slots_count {z : List Cl} {G g : Nat} (hz : z.length = 8 * G) (hg : g < G) (p : Nat → Bool) : (slots (fun i => p ((wrd z g).getD i 0)) 8).length = ((grp z g).filter (fun c => p c.1)).length := by
 have hl : (grp z g).length = 8 := by unfold grp; rw [List.length_take, List.length_drop]; omega
 rw [← range_count (fun c : Cl => p c.1) noC (grp z g), hl]
 unfold slots
 congr 1
 refine List.filter_congr fun i hi => ?_
 rw [List.mem_range] at hi
 rw [wrd_get hz hg hi, cel, List.getD_eq_getElem?_getD, List.getD_eq_getElem?_getD, grp, List.getElem?_take, if_pos hi, List.getElem?_drop]
theorem count_full {z : List Cl} {G g : Nat} (hz : z.length = 8 * G) (hg : g < G) : (slots (ful (wrd z g)) 8).length = (ents (grp z g)).length := by
 have := slots_count hz hg (fun b => !decide (128 ≤ b))
 unfold ents
 rw [List.length_map]
 refine Eq.trans this (congrArg List.length (List.filter_congr fun c _ => ?_))
 unfold full
 by_cases h : c.1 < 128
 ·rw [decide_eq_true h, decide_eq_false (by omega)]; rfl
 ·rw [decide_eq_false h, decide_eq_true (by omega)]; rfl
theorem count_gone {z : List Cl} {G g : Nat} (hz : z.length = 8 * G) (hg : g < G) : (slots (has (wrd z g) 254) 8).length = dels (grp z g) := slots_count hz hg (fun b => decide (b = 254))
theorem len_take {z : List Cl} {G g : Nat} (hz : z.length = 8 * G) (hg : g < G) : (ents (z.take (8 * (g + 1)))).length = (ents (z.take (8 * g))).length + (slots (ful (wrd z g)) 8).length := by
 rw [take_grp, ents_append, List.length_append, count_full hz hg]
theorem dels_take {z : List Cl} {G g : Nat} (hz : z.length = 8 * G) (hg : g < G) : dels (z.take (8 * (g + 1))) = dels (z.take (8 * g)) + (slots (has (wrd z g) 254) 8).length := by
 rw [take_grp, dels_append, count_gone hz hg]
theorem dels_le (z : List Cl) : dels z ≤ z.length := List.length_filter_le _ _
theorem Len_any (B p b x G : Nat) (z : List Cl) (w : World) (hT : Tab w B p b x G z) : Calls Tryz.prog 149 #[ptr p] w fun e w' => e = .returned (.int .i64 ((ents z).length : Nat)) ∧ w' = w := by
 have hc := hT.top.groups
 have hG := hT.inv.grp.le
 have HT : Hid (Tab w B p b x G z) := hT
 have HL : Hid (z.length = 8 * G) := hT.inv.len
 clear hT
 go_enter Tryz.func149, Tryz.ntmps149
 go_wp2
 go_loopg [3, 4, 10] G (fun q nv iv jv wr => w = wr ∧ ∃ g : Nat, g + q = G ∧ jv = .int .i64 g ∧ nv = .int .i64 ((ents (z.take (8 * g))).length : Nat))
 case atStart => exact ⟨rfl, 0, by omega, rfl, rfl⟩
 case round =>
  obtain ⟨rfl, g, hg, rfl, rfl⟩ := hrel
  by_cases h8 : (g : Int) < G
  ·have hgG : g < G := by omega
   have hw := HT.out.row.word hgG
   have HC := fun w => Count_any (HT.out.inv.ok hgG) w
   have HN : Hid ((ents (z.take (8 * (g + 1)))).length = (ents (z.take (8 * g))).length + (slots (ful (wrd z g)) 8).length) := len_take HL.out hgG
   have hl1 := slots_len (ful (wrd z g)) 8
   have hl2 : (ents (z.take (8 * g))).length ≤ 128 := by
    have := ents_len_le (z.take (8 * g))
    rw [List.length_take] at this
    have := HL.out
    omega
   generalize (ents (z.take (8 * g))).length = n at HN hl2 ⊢
   generalize (slots (ful (wrd z g)) 8).length = m at HN hl1 HC
   generalize val (wrd z g) = wv at hw HC
   go_wp2_with fail
   refine (HC _).mono ?_
   rintro e w ⟨rfl, rfl⟩
   go_wp2
   go_roundg (gk - 1)
   case measure => omega
   case rel => exact ⟨rfl, g + 1, by omega, by go_num, by rw [HN.out]; go_num⟩
  ·have HE : Hid (z.take (8 * g) = z) := by show _ = _; rw [List.take_of_length_le (by have := HL.out; omega)]
   rw [HE.out]
   go_wp2
   go_ret
   exact ⟨rfl, rfl⟩
theorem Marks_any (B p b x G : Nat) (z : List Cl) (w : World) (hT : Tab w B p b x G z) : Calls Tryz.prog 208 #[ptr p] w fun e w' => e = .returned (.int .i64 (dels z : Nat)) ∧ Below w.heap.size w w' := by
 have hc := hT.top.groups
 have hG := hT.inv.grp.le
 have HT : Hid (Tab w B p b x G z) := hT
 have HL : Hid (z.length = 8 * G) := hT.inv.len
 have HB : Hid (Below w.heap.size w w) := Below.refl _ _
 clear hT
 go_enter Tryz.func208, Tryz.ntmps208
 go_wp2
 clear hc
 go_loopg [3, 4, 10] G (fun q nv iv jv wr => ∃ g : Nat, g + q = G ∧ jv = .int .i64 g ∧ nv = .int .i64 (dels (z.take (8 * g)) : Nat) ∧ Hid (Below w.heap.size w wr))
 case atStart => exact ⟨0, by omega, rfl, rfl, HB⟩
 case round =>
  clear HB
  obtain ⟨g, hg, rfl, rfl, HB⟩ := hrel
  have HTr : Hid (Tab wr B p b x G z) := HT.out.keep HB.out
  by_cases h8 : (g : Int) < G
  ·have hgG : g < G := by omega
   have hc := HTr.out.top.groups
   have hw := HTr.out.row.word hgG
   have HC := fun w => Match_any (HT.out.inv.ok hgG) 254 (by decide) w
   have HN : Hid (dels (z.take (8 * (g + 1))) = dels (z.take (8 * g)) + (slots (has (wrd z g) 254) 8).length) := dels_take HL.out hgG
   have hl1 := slots_len (has (wrd z g) 254) 8
   have hl2 : dels (z.take (8 * g)) ≤ 128 := by
    have := dels_le (z.take (8 * g))
    rw [List.length_take] at this
    have := HL.out
    omega
   generalize dels (z.take (8 * g)) = n at HN hl2 ⊢
   generalize slots (has (wrd z g) 254) 8 = ms at HN hl1 HC
   generalize val (wrd z g) = wv at hw HC
   go_wp2_with fail
   refine (HC _).mono ?_
   rintro e w1 ⟨hb, a1, n1, c1, rfl, hO⟩
   have H1 := step_below HB hb
   have hn1 : ms.length = n1 := hO.len
   have HN1 : Hid (ms.length = n1) := hn1
   rw [hn1] at hl1
   clear hb hO hn1
   go_wp2
   go_roundg (gk - 1)
   case measure => omega
   case rel => exact ⟨g + 1, by omega, by go_num, by rw [HN.out, HN1.out]; go_num, H1⟩
  ·have HE : Hid (z.take (8 * g) = z) := by show _ = _; rw [List.take_of_length_le (by have := HL.out; omega)]
   rw [HE.out]
   go_wp2
   go_ret
   exact ⟨rfl, HB.out⟩
set_option maxRecDepth 100000 in
set_option maxHeartbeats 4000000 in
theorem full_any (B p b x G : Nat) (z : List Cl) (w : World) (hT : Tab w B p b x G z) : Calls Tryz.prog 211 #[ptr p] w fun e w' => Below w.heap.size w w' ∧ ∃ a n c, e = .returned (.slice a n c) ∧ OwnE w' w.heap.size a n c (ents z) := by
 have hc := hT.top.groups
 have hG := hT.inv.grp.le
 have HT : Hid (Tab w B p b x G z) := hT
 have HL : Hid (z.length = 8 * G) := hT.inv.len
 have HB : Hid (Below w.heap.size w w) := Below.refl _ _
 have HO : Hid (OwnE w w.heap.size none 0 0 (ents (z.take (8 * 0)))) := OwnR.nil _ _ _ _
 clear hT
 go_enter Tryz.func211, Tryz.ntmps211
 go_wp2
 clear hc
 go_loopg [3, 4, 5, 11, 14] G (fun q sv iv ev jv kv wr => ∃ (g : Nat) (a : Option Addr) (n c : Nat), g + q = G ∧ jv = .int .i64 g ∧ sv = .slice a n c ∧ Hid (OwnE wr w.heap.size a n c (ents (z.take (8 * g)))) ∧ Hid (Below w.heap.size w wr))
 case atStart => exact ⟨0, none, 0, 0, by omega, rfl, rfl, HO, HB⟩
 case round =>
  clear HB HO
  obtain ⟨g, a, n, c, hg, rfl, rfl, HO, HB⟩ := hrel
  obtain ⟨ga, hga⟩ : ∃ ga, ga = gk := ⟨_, rfl⟩
  subst hga
  obtain ⟨wa, hwa⟩ : ∃ wa, wa = wr := ⟨_, rfl⟩
  subst hwa
  have HK : Hid (g + ga = G) := hg
  by_cases h8 : (g : Int) < G
  ·have hgG : g < G := by omega
   clear hg
   go_wp2
   go_loopg [3, 5, 14] 8 (fun q sv iv jv wr => ∃ (i : Nat) (a : Option Addr) (n c : Nat), i + q = 8 ∧ jv = .int .i64 i ∧ sv = .slice a n c ∧ Hid (OwnE wr w.heap.size a n c (ents (z.take (8 * g + i)))) ∧ Hid (Below w.heap.size w wr))
   case atStart => exact ⟨0, a, n, c, by omega, rfl, rfl, HO, HB⟩
   case round =>
    clear HB HO
    obtain ⟨i, a, n, c, hi, rfl, rfl, HO, HB⟩ := hrel
    have HTr : Hid (Tab wr B p b x G z) := HT.out.keep HB.out
    by_cases hi8 : (i : Int) < 8
    ·have hi8' : i < 8 := by omega
     have hc := HTr.out.top.groups
     have hw := HTr.out.row.word hgG
     have hk := HTr.out.row.key hgG hi8'
     have HA := fun w => At_in (HT.out.inv.ok hgG) i hi8' w
     rw [wrd_get HL.out hgG hi8'] at HA
     have hq : 8 * g + i < z.length := by have := HL.out; omega
     have HS : Hid (z.take (8 * g + (i + 1)) = z.take (8 * g + i) ++ [cel z (8 * g + i)]) := by show _ = _; rw [cel_at z hq, ← Nat.add_assoc, List.take_add_one, List.getElem?_eq_getElem hq]; rfl
     have hlt := HT.out.inv.byt' _ (cel_mem z hq)
     have hsz := HB.out.size
     have HN : Hid (n + 1 ≤ 1000000) := by
      have h1 := OwnE.len HO.out
      have h2 := ents_len_le (z.take (8 * g + i))
      rw [List.length_take] at h2
      have := HL.out
      show _ ≤ _
      omega
     generalize val (wrd z g) = wv at hw HA
     generalize cel z (8 * g + i) = cc at hk HA HS hlt
     obtain ⟨bt, k, v⟩ := cc
     simp only [] at hk HA hlt
     clear hq hi8'
     by_cases hf : bt < 128
     ·have HE : Hid (ents (z.take (8 * g + (i + 1))) = ents (z.take (8 * g + i)) ++ [(k, v)]) := by show _ = _; rw [HS.out, ents_append, ents_cons_yes hf]; rfl
      have hfz : (bt : Int) < 128 := by omega
      go_wp2_with (first | (go_at_call 192; refine (HA _).mono ?_; rintro e wr ⟨rfl, rfl⟩) | (at_builtin; refine append_e (v := v) rfl (.tmp 28) (.tmp 39) rfl w.heap.size rfl (OwnR.keep HO.out (alloc_below wr _)) rfl (by simp; rfl) HN.out (Nat.le_trans hsz (alloc_below wr _).size) ?_; intro a3 n3 c3 w3 hn3 HO3 HG3 HW3; have HB3 : Hid (Below w.heap.size w w3) := (HB.out.trans ((alloc_below wr _).mono hsz)).trans ((OwnR.keep HO.out (alloc_below wr _)).below HG3.out (Nat.le_trans hsz (alloc_below wr _).size))))
      go_roundg (gk - 1)
      case measure => omega
      case rel => exact ⟨i + 1, _, _, _, by omega, by go_num, rfl, by rw [HE.out, ← hn3]; exact HO3, HB3⟩
     ·have HE : Hid (ents (z.take (8 * g + (i + 1))) = ents (z.take (8 * g + i))) := by show _ = _; rw [HS.out, ents_append, ents_cons_no (by omega : 128 ≤ bt)]; exact List.append_nil _
      have hfz : ¬ (bt : Int) < 128 := by omega
      go_wp2_with fail
      refine (HA _).mono ?_
      rintro e wr ⟨rfl, rfl⟩
      go_wp2
      go_roundg (gk - 1)
      case measure => omega
      case rel => exact ⟨i + 1, _, _, _, by omega, by go_num, rfl, by rw [HE.out]; exact HO, HB⟩
    ·have HE : Hid (8 * (g + 1) = 8 * g + i) := by show _ = _; omega
     go_wp2
     go_roundg (ga - 1)
     case measure => have := HK.out; omega
     case rel => exact ⟨g + 1, _, _, _, by have := HK.out; omega, by go_num, rfl, by rw [HE.out]; exact HO, HB⟩
  ·have HE : Hid (z.take (8 * g) = z) := by show _ = _; rw [List.take_of_length_le (by have := HL.out; omega)]
   rw [HE.out] at HO
   go_wp2
   go_ret
   exact ⟨HB.out, _, _, _, rfl, HO.out⟩
set_option maxRecDepth 100000 in
set_option maxHeartbeats 4000000 in
theorem Keys_any (B p b x G : Nat) (z : List Cl) (w : World) (hT : Tab w B p b x G z) : Calls Tryz.prog 162 #[ptr p] w fun e w' => Below w.heap.size w w' ∧ ∃ a n c, e = .returned (.slice a n c) ∧ OwnS w' w.heap.size a n c ((ents z).map (·.1)) := by
 have HF := full_any B p b x G z w hT
 have HN : Hid ((ents z).length ≤ 200) := by
  have h1 := ents_len_le z
  have h2 := hT.inv.len
  have h3 := hT.inv.grp.le
  show _ ≤ _
  omega
 clear hT
 generalize ents z = es at HF HN ⊢
 go_enter Tryz.func162, Tryz.ntmps162
 go_wp2_with fail
 refine HF.mono ?_
 rintro e w1 ⟨hb, ae, ne, ce, rfl, hE⟩
 have HE : Hid (OwnE w1 w.heap.size ae ne ce es) := hE
 have HL : Hid (es.length = ne) := OwnE.len hE
 have HB1 : Hid (Below w.heap.size w w1) := hb
 have hne : ne ≤ 200 := by have := HN.out; have := HL.out; omega
 have HO : Hid (OwnS w1 w1.heap.size none 0 0 ((es.take 0).map (·.1))) := OwnR.nil _ _ _ _
 clear hE hb
 go_wp2
 go_loopg [3, 5, 9] ne (fun q sv iv jv wr => ∃ (i : Nat) (a : Option Addr) (n c : Nat), i + q = ne ∧ jv = .int .i64 i ∧ sv = .slice a n c ∧ Hid (OwnS wr w1.heap.size a n c ((es.take i).map (·.1))) ∧ Hid (Below w1.heap.size w1 wr))
 case atStart => exact ⟨0, none, 0, 0, by omega, rfl, rfl, HO, Below.refl _ _⟩
 case round =>
  clear HO
  obtain ⟨i, a, n, c, hi, rfl, rfl, HO, HB⟩ := hrel
  by_cases h8 : (i : Int) < ne
  ·obtain ⟨g, ha, hk⟩ := OwnE.cell (OwnR.keep HE.out HB.out) (j := i) (by omega)
   subst ha
   have HS : Hid (es.take (i + 1) = es.take i ++ [es.getD i (⟨#[]⟩, ())]) := take_snoc es _ i (by have := HL.out; omega)
   generalize es.getD i (⟨#[]⟩, ()) = ev at hk HS
   obtain ⟨k, v⟩ := ev
   simp only [] at hk
   have HE1 : Hid ((es.take (i + 1)).map (·.1) = (es.take i).map (·.1) ++ [k]) := by show _ = _; rw [HS.out, List.map_append]; rfl
   have hsz := HB.out.size
   have HN1 : Hid (n + 1 ≤ 1000000) := by
    have h1 := OwnS.len HO.out
    rw [List.length_map, List.length_take] at h1
    show _ ≤ _
    omega
   go_wp2_with (at_builtin; refine append_s rfl (.tmp 13) (.tmp 16) rfl w1.heap.size rfl (OwnR.keep HO.out (alloc2_below wr _ _)) rfl (by simp; rfl) HN1.out (Nat.le_trans hsz (alloc2_below wr _ _).size) ?_; intro a3 n3 c3 w3 hn3 HO3 HG3 HW3; have HB3 : Hid (Below w1.heap.size w1 w3) := (HB.out.trans ((alloc2_below wr _ _).mono hsz)).trans ((OwnR.keep HO.out (alloc2_below wr _ _)).below HG3.out (Nat.le_trans hsz (alloc2_below wr _ _).size)))
   go_roundg (gk - 1)
   case measure => omega
   case rel => exact ⟨i + 1, _, _, _, by omega, by go_num, rfl, by rw [HE1.out, ← hn3]; exact HO3, HB3⟩
  ·have HE : Hid (es.take i = es) := by show _ = _; rw [List.take_of_length_le (by have := HL.out; omega)]
   rw [HE.out] at HO
   go_wp2
   go_ret
   exact ⟨HB1.out.trans (HB.out.mono HB1.out.size), _, _, _, rfl, HO.out.low HB1.out.size⟩
end Go.Proofs.YtikimcbalkhooaaGreat.Zs.Dk
