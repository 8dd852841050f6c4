/- Texts that the others stand on. -/
import Derived.Test.YtmjeljldmmkcpaaGreatK28
import Derived.Deep.CutRange
import Derived.BigQuiet
import Derived.Lib.Builder
set_option maxRecDepth 100000
namespace Go.Proofs.YtmjeljldmmkcpaaGreat.Sq
open Go.RowKit Go.PlainAid
open Dk (ptr Aa Ac Ad Af OwnR OwnP OwnS Mv Am Elt A4)
structure Qs (w : World) (B s : Nat) (S : Sd) (L : List Nat) (I : Nat → Itm) (P : Nat → Int) (Q : List Nat) : Prop where
 ex : ∃ a c, w.heap[s]? = some (.cells (By S (.slice a Q.length c)) 85 (0, 0)) ∧ OwnP w B 78 a Q.length c Q
 its : Its w B L I P
 sub : ∀ p ∈ Q, p ∈ L
 plc : Plcs P Q
 ord : Ord (un I) Q
 out : ∀ p ∈ L, p ∉ Q → P p = -1
 nod : L.Nodup
 low : B ≤ s
 few : L.length ≤ 1000000
theorem len_sub {Q L : List Nat} (hn : Q.Nodup) (hs : ∀ p ∈ Q, p ∈ L) : Q.length ≤ L.length := by
 induction Q generalizing L with
 | nil => exact Nat.zero_le _
 | cons q Q ih =>
  rw [List.nodup_cons] at hn
  have h1 : ∀ p ∈ Q, p ∈ L.erase q := fun p hp => (List.mem_erase_of_ne (fun e => hn.1 (by rw [← e]; exact hp))).2 (hs p (List.mem_cons_of_mem _ hp))
  have h2 := ih hn.2 h1
  have h3 := List.length_erase_of_mem (hs q (by simp))
  have h4 : 0 < L.length := List.length_pos_of_mem (hs q (by simp))
  rw [List.length_cons]
  omega
theorem Plcs.nod {P : Nat → Int} {Q : List Nat} (h : Plcs P Q) : Q.Nodup := by
 unfold List.Nodup
 rw [List.pairwise_iff_getElem]
 intro i j hi hj hij e
 have h1 := at_some hi
 have h2 := at_some hj
 rw [List.getElem?_eq_getElem hi] at h1
 rw [List.getElem?_eq_getElem hj] at h2
 injection h1 with h1
 injection h2 with h2
 have := h.inj hi hj (by rw [← h1, ← h2]; exact e)
 omega
theorem Rq.own {w : World} {B g c : Nat} {Q : List Nat} (h : Rq w B g c Q Q.length) : OwnP w B 78 (some ⟨g, 0, none⟩) Q.length c Q := by
 obtain ⟨cur, k1, k2, k3⟩ := h.ex
 have hl := h.le
 refine ⟨by simp [Am], .inr ⟨g, c, cur, rfl, h.low, k1, h.le, h.mx, by omega, ?_⟩⟩
 rw [Nat.mul_one]
 apply List.ext_getElem?
 intro i
 rw [List.getElem?_take]
 by_cases hi : i < Q.length
 ·rw [if_pos hi]
  have := k3 i hi (by omega)
  rw [Array.getElem?_toList, this]
  unfold Am
  rw [List.getElem?_map, at_some hi]
  rfl
 ·rw [if_neg hi]
  unfold Am
  rw [List.getElem?_eq_none (by rw [List.length_map]; omega)]
theorem Rq.of {w : World} {B g c : Nat} {Q : List Nat} {n : Nat} (h : OwnP w B 78 (some ⟨g, 0, none⟩) n c Q) (hn : n = Q.length) (k : Nat) : Rq w B g c Q k := by
 subst hn
 rcases h.2 with ⟨h2, h3⟩ | ⟨g', c', cur, h1, h3, h4, h5, h6, h7, h8⟩
 ·cases h2
 ·cases h1
  refine ⟨⟨cur, h4, by omega, fun i hi _ => ?_⟩, h5, h6, h3⟩
  rw [Nat.mul_one] at h8
  have := congrArg (fun l : List Value => l[i]?) h8
  replace this : (cur.toList.take Q.length)[i]? = (Am Q)[i]? := this
  rw [List.getElem?_take, if_pos hi, Array.getElem?_toList] at this
  rw [this]
  unfold Am
  rw [List.getElem?_map, at_some hi]
  rfl
section
variable {w : World} {B s : Nat} {S : Sd} {L : List Nat} {I : Nat → Itm} {P : Nat → Int} {Q : List Nat}
theorem Qs.le (H : Qs w B s S L I P Q) : Q.length ≤ 1000000 := Nat.le_trans (len_sub H.plc.nod H.sub) H.few
theorem Qs.hs (H : Qs w B s S L I P Q) (h0 : 0 < Q.length) (h : Nat) : ∃ g c, Hs w B s S g c L I P Q h := by
 obtain ⟨a, c, h1, h2⟩ := H.ex
 have hl := H.le
 obtain ⟨g, e, -⟩ := OwnR.at h2 h0
 subst e
 exact ⟨g, c, h1, Rq.of h2 rfl h, H.its, fun i hi _ => H.sub _ (at_mem hi), fun i hi _ => H.plc i hi, H.low, hl⟩
theorem Qs.head (H : Qs w B s S L I P Q) : ∃ a c, w.cell? ⟨s, 4, none⟩ = some (.slice a Q.length c) := by
 obtain ⟨a, c, h1, h2⟩ := H.ex
 exact ⟨a, c, by simp [World.cell?, h1]⟩
theorem Hs.qs {g c : Nat} (H : Hs w B s S g c L I P Q Q.length) (ho : Ord (un I) Q) (hout : ∀ p ∈ L, p ∉ Q → P p = -1) (hn : L.Nodup) (hf : L.length ≤ 1000000) : Qs w B s S L I P Q :=
 ⟨⟨_, c, H.blk, H.row.own⟩, H.its, fun p hp => by
  obtain ⟨i, hi, e⟩ := at_ex hp
  rw [← e]
  exact H.sub i hi (by omega), fun i hi => H.plc i hi (by omega), ho, hout, hn, H.low, hf⟩
theorem Hs.keep {g c h : Nat} (H : Hs w B s S g c L I P Q h) {w' : World} (hb : Below w.heap.size w w') : Hs w' B s S g c L I P Q h := by
 have hlt : ∀ (k : Nat) (cs : Array Value) (t : TypeId), w.heap[k]? = some (Obj.cells cs t (0, 0)) → w'.heap[k]? = some (Obj.cells cs t (0, 0)) := fun k cs t hk => by rw [hb.block k (Array.getElem?_eq_some_iff.1 hk).1]; exact hk
 obtain ⟨cur, k1, k2⟩ := H.row.ex
 exact ⟨hlt _ _ _ H.blk, ⟨⟨cur, hlt _ _ _ k1, k2⟩, H.row.le, H.row.mx, H.row.low⟩, fun p hp => ⟨(H.its p hp).1, hlt _ _ _ (H.its p hp).2⟩, H.sub, H.plc, H.low, H.few⟩
theorem Hs.lt {g c h : Nat} (H : Hs w B s S g c L I P Q h) : B ≤ w.heap.size := Nat.le_trans H.low (Nat.le_of_lt (Array.getElem?_eq_some_iff.1 H.blk).1)
theorem Way.keep {w0 : World} {g c h0 it h : Nat} {P0 : Nat → Int} {Q0 : List Nat} (W : Way w0 w B s S g c L I P0 Q0 h0 it P Q h) {w' : World} (hb : Below w.heap.size w w') : Way w0 w' B s S g c L I P0 Q0 h0 it P Q h :=
 ⟨W.hs.keep hb, W.gap, W.lt, W.new, W.perm, W.out, W.mv.trans (Mb.of_below hb W.hs.lt)⟩
theorem qtagP : qtag 78 = true := by decide
theorem qtagI : qtag 96 = true := by decide
theorem qtagS : qtag 85 = true := by decide
theorem Qs.mv (H : Qs w B s S L I P Q) {w' : World} {t : TypeId → Bool} (hm : Mv t w w') (ht : ∀ k, qtag k = true → t k = false) : Qs w' B s S L I P Q := by
 obtain ⟨a, c, h1, h2⟩ := H.ex
 refine ⟨⟨a, c, by rw [hm.block s _ _ h1 (ht _ qtagS)]; exact h1, OwnR.mv h2 hm (ht _ qtagP)⟩, H.its.mv hm (ht _ qtagI), H.sub, H.plc, H.ord, H.out, H.nod, H.low, H.few⟩
theorem Qs.keep (H : Qs w B s S L I P Q) {w' : World} (hb : Below w.heap.size w w') : Qs w' B s S L I P Q := H.mv (t := fun _ => false) (Mv.of_below hb) (fun _ _ => rfl)
end
abbrev qp (s : Nat) : Value := .pointer (some ⟨s, 4, none⟩)
theorem first_any (w : World) (B s : Nat) (S : Sd) (g c : Nat) (L : List Nat) (I : Nat → Itm) (P : Nat → Int) (Q : List Nat) (h : Nat) (H : Hs w B s S g c L I P Q h) (h0 : 0 < Q.length) (hh : h ≠ 0) :
  Calls Tryz.prog 68 #[qp s] w fun e w' => e = .returned (ptr (at' Q 0)) ∧ w' = w := by
 have e1 := H.head
 have e2 := H.cell h0 (Ne.symm hh)
 have hz : (0 : Int) < Q.length := by omega
 clear H
 go_enter Tryz.func68, Tryz.ntmps68
 go_wp2
 go_ret
 exact ⟨rfl, rfl⟩
theorem isTimed_any (w : World) (p : Nat) (n : Int) (h : w.cell? ⟨p, 3, none⟩ = some (.int .i64 n)) :
  Calls Tryz.prog 46 #[ptr p] w fun e w' => e = .returned (.bool (decide (n ≠ -1))) ∧ w' = w := by
 by_cases hn : n = -1
 ·subst hn
  go_enter Tryz.func46, Tryz.ntmps46
  go_wp2
  go_ret
  exact ⟨rfl, rfl⟩
 ·rw [decide_eq_true hn]
  have hb : (n != -1) = true := by simpa using hn
  go_enter Tryz.func46, Tryz.ntmps46
  go_wp2
  go_ret
  exact ⟨rfl, rfl⟩
theorem lay_any (w : World) (B s : Nat) (S : Sd) (g c : Nat) (L : List Nat) (I : Nat → Itm) (P : Nat → Int) (Q : List Nat) (h : Nat) (H : Hs w B s S g c L I P Q h) (q : Nat) (hq : q ∈ L) (hh : h < Q.length) :
  Calls Tryz.prog 161 #[qp s, ptr q, .int .i64 h] w fun e w' => e = .returned (.tuple #[]) ∧ w' = (w.setCell ⟨g, h, none⟩ (ptr q)).setCell ⟨q, 3, none⟩ (.int .i64 h) := by
 have e1 := H.head
 obtain ⟨v0, e2⟩ := H.any hh
 have e3 := H.fz h
 have hz : (h : Int) < Q.length := by omega
 have hI := H.its q hq
 obtain ⟨cur, k1, -⟩ := H.row.ex
 have n1 : (w.setCell ⟨g, h, none⟩ (ptr q)).heap[q]? = some (.cells (Ca (I q) (P q)) 96 (0, 0)) := by rw [Ar (Ne.symm (Bj k1 hI.2 (by decide)))]; exact hI.2
 have e4 : (w.setCell ⟨g, h, none⟩ (ptr q)).cell? ⟨q, 3, none⟩ = some (.int .i64 (P q)) := by simp [World.cell?, n1]
 have e5 : (w.setCell ⟨g, h, none⟩ (ptr q)).frozen? ⟨q, 3, none⟩ = false := by simp [World.frozen?, n1]
 clear H hI k1 n1
 go_enter Tryz.func161, Tryz.ntmps161
 go_wp2
 go_end0
 exact ⟨rfl, rfl⟩
def RiseTo (w w' : World) (B s : Nat) (S : Sd) (g c : Nat) (L : List Nat) (I : Nat → Itm) (P : Nat → Int) (Q : List Nat) (h it : Nat) : Prop :=
 ∃ P' Q' h', Fin w w' B s S g c L I P Q h it P' Q' ∧ h' < Q'.length ∧ at' Q' h' = it ∧ P' it = h' ∧ Gap (un I) Q' h' ∧ ahead I Q' h' it ∧ (kids I Q h it → Ord (un I) Q')
theorem Way.rose {w0 w : World} {B s : Nat} {S : Sd} {g c : Nat} {L : List Nat} {I : Nat → Itm} {P0 : Nat → Int} {Q0 : List Nat} {h0 it : Nat} {P : Nat → Int} {Q : List Nat} {h : Nat} (W : Way w0 w B s S g c L I P0 Q0 h0 it P Q h) (hit : it ∈ L) {w' : World} (hw : w' = (w.setCell ⟨g, h, none⟩ (ptr it)).setCell ⟨it, 3, none⟩ (.int .i64 h)) (ha : ahead I Q h it) (hk : kids I Q0 h0 it → kids I Q h it) : RiseTo w0 w' B s S g c L I P0 Q0 h0 it := by
 obtain ⟨k1, k2⟩ := W.gap.lay (x := it) ha
 exact ⟨_, _, h, W.lay hit hw, by rw [List.length_set]; exact W.lt, at_eq rfl W.lt, Br _ _ _, k1, k2, fun k => W.gap.done W.lt ha (hk k)⟩
theorem rise_any (w : World) (B s : Nat) (S : Sd) (g c : Nat) (L : List Nat) (I : Nat → Itm) (P : Nat → Int) (Q : List Nat) (h it : Nat) (hW : Way w w B s S g c L I P Q h it P Q h) (hit : it ∈ L) :
  Calls Tryz.prog 113 #[qp s, ptr it, .int .i64 h] w fun e w' => e = .returned (.tuple #[]) ∧ RiseTo w w' B s S g c L I P Q h it := by
 have HW0 : Hid (Way w w B s S g c L I P Q h it P Q h) := hW
 clear hW
 go_enter Tryz.func113, Tryz.ntmps113
 go_wp2
 go_loopg [2] (h + 1) (fun gk pv wr => ∃ (h' : Nat) (P' : Nat → Int) (Q' : List Nat), pv = .int .i64 h' ∧ h' + 1 ≤ gk ∧ Hid (Way w wr B s S g c L I P Q h it P' Q' h') ∧ Hid (kids I Q h it → kids I Q' h' it))
 case atStart => exact ⟨h, P, Q, rfl, Nat.le_refl _, HW0, fun k => k⟩
 case round =>
  obtain ⟨h', P', Q', rfl, hg, HW, HK⟩ := hrel
  have hlen := HW.out.hs.few
  have hlt := HW.out.lt
  by_cases h0 : (0 : Int) < h'
  ·obtain ⟨a, ha⟩ : ∃ a, (h' - 1) / 2 = a := ⟨_, rfl⟩
   have halt : a < h' := by omega
   have hah : a ≠ h' := by omega
   have hal : a < Q'.length := by omega
   have hiz : (a : Int) < Q'.length := by omega
   have hq1 : ((h' : Int) - 1).tdiv 2 = (a : Nat) := by rw [Int.tdiv_eq_ediv_of_nonneg (by omega)]; omega
   have e1 := HW.out.hs.head
   have e2 := HW.out.hs.cell hal hah
   have hr := HW.out.hs.sub a hal hah
   obtain ⟨r, hre⟩ : ∃ r, at' Q' a = r := ⟨_, rfl⟩
   rw [hre] at e2 hr
   have e3 := HW.out.hs.its.cu hr
   have e4 := HW.out.hs.its.cu hit
   have HRE : Hid (at' Q' a = r) := hre
   have HA : Hid ((h' - 1) / 2 = a) := ha
   clear hre ha
   by_cases hc : (I r).u ≤ (I it).u
   ·have HC : Hid ((I r).u ≤ (I it).u) := hc
    have hcz : decide ((I r).u ≤ (I it).u) = true := decide_eq_true hc
    clear hc
    go_upto_region 2 with fail
    go_quiet (fail)
    have HW1 := HW.out.keep (Aa wr nq)
    generalize wr.drewN nq = w1 at HW1 ⊢
    have HL := lay_any w1 B s S g c L I P' Q' h' HW1.hs it hit HW1.lt
    have HW2 : Hid (Way w w1 B s S g c L I P Q h it P' Q' h') := HW1
    clear e1 e2 e3 e4 HW1
    go_wp2_with fail
    refine HL.mono ?_
    rintro e w2 ⟨rfl, hw2⟩
    have HR : Hid (RiseTo w w2 B s S g c L I P Q h it) := HW2.out.rose hit hw2 (fun _ => by rw [HA.out, HRE.out]; exact HC.out) HK.out
    clear hw2 HL
    go_wp2
    go_end0
    exact ⟨rfl, HR.out⟩
   ·have HC : Hid ((I it).u ≤ (I r).u) := by show _ ≤ _; omega
    have hcz : decide ((I r).u ≤ (I it).u) = false := decide_eq_false hc
    clear hc
    go_upto_region 2 with fail
    go_quiet (fail)
    have HW1 := HW.out.keep (Aa wr nq)
    generalize wr.drewN nq = w1 at HW1 ⊢
    have HL := lay_any w1 B s S g c L I P' Q' h' HW1.hs r hr HW1.lt
    have HW2 : Hid (Way w w1 B s S g c L I P Q h it P' Q' h') := HW1
    clear e1 e2 e3 e4 HW1
    have e1 := HW2.out.hs.head
    have e2 := HW2.out.hs.cell hal hah
    rw [HRE.out] at e2
    go_wp2_with fail
    refine HL.mono ?_
    rintro e w2 ⟨rfl, hw2⟩
    have HW3 : Hid (Way w w2 B s S g c L I P Q h it (upd P' r h') (Q'.set h' r) a) := by
     have h1 := HW2.out.gap.up (by omega) HW2.out.lt
     rw [HA.out] at h1
     have h2 := HW2.out.fill hal hah (w' := w2) (by rw [HRE.out]; exact hw2) h1
     rw [HRE.out] at h2
     exact h2
    have HK3 : Hid (kids I Q h it → kids I (Q'.set h' r) a it) := fun _ => by
     have h1 := HW2.out.gap.behind (x := it) (by omega) HW2.out.lt (by rw [HA.out, HRE.out]; exact HC.out)
     rw [HA.out, HRE.out] at h1
     exact h1
    clear hw2 HL e1 e2
    go_wp2
    go_roundg (gk - 1)
    case measure => omega
    case rel => exact ⟨a, _, _, rfl, by omega, HW3, HK3⟩
  ·obtain rfl : h' = 0 := by omega
   have HL : Calls Tryz.prog 161 #[qp s, ptr it, .int .i64 0] wr fun e w' => e = .returned (.tuple #[]) ∧ w' = (wr.setCell ⟨g, 0, none⟩ (ptr it)).setCell ⟨it, 3, none⟩ (.int .i64 0) := lay_any wr B s S g c L I P' Q' 0 HW.out.hs it hit HW.out.lt
   clear h0
   go_wp2_with fail
   refine HL.mono ?_
   rintro e w2 ⟨rfl, hw2⟩
   have HR : Hid (RiseTo w w2 B s S g c L I P Q h it) := HW.out.rose hit hw2 (fun h1 => by omega) HK.out
   clear hw2 HL
   go_wp2
   go_end0
   exact ⟨rfl, HR.out⟩
def SinkTo (w w' : World) (B s : Nat) (S : Sd) (g c : Nat) (L : List Nat) (I : Nat → Itm) (P : Nat → Int) (Q : List Nat) (h it : Nat) : Prop :=
 ∃ P' Q', Fin w w' B s S g c L I P Q h it P' Q' ∧ Ord (un I) Q'
theorem Way.sunk {w0 w : World} {B s : Nat} {S : Sd} {g c : Nat} {L : List Nat} {I : Nat → Itm} {P0 : Nat → Int} {Q0 : List Nat} {h0 it : Nat} {P : Nat → Int} {Q : List Nat} {h : Nat} (W : Way w0 w B s S g c L I P0 Q0 h0 it P Q h) (hit : it ∈ L) {w' : World} (hw : w' = (w.setCell ⟨g, h, none⟩ (ptr it)).setCell ⟨it, 3, none⟩ (.int .i64 h)) (ha : ahead I Q h it) (hk : kids I Q h it) : SinkTo w0 w' B s S g c L I P0 Q0 h0 it :=
 ⟨_, _, W.lay hit hw, W.gap.done W.lt ha hk⟩
structure Kid (I : Nat → Itm) (Q : List Nat) (h b : Nat) : Prop where
 lt : b < Q.length
 pos : 0 < b
 par : (b - 1) / 2 = h
 min : ∀ i, 0 < i → i < Q.length → (i - 1) / 2 = h → un I (at' Q b) ≤ un I (at' Q i)
theorem sink_any (w : World) (B s : Nat) (S : Sd) (g c : Nat) (L : List Nat) (I : Nat → Itm) (P : Nat → Int) (Q : List Nat) (h it : Nat) (hW : Way w w B s S g c L I P Q h it P Q h) (hA : ahead I Q h it) (hit : it ∈ L) :
  Calls Tryz.prog 114 #[qp s, ptr it, .int .i64 h] w fun e w' => e = .returned (.tuple #[]) ∧ SinkTo w w' B s S g c L I P Q h it := by
 have HW0 : Hid (Way w w B s S g c L I P Q h it P Q h) := hW
 have HA0 : Hid (ahead I Q h it) := hA
 clear hW hA
 go_enter Tryz.func114, Tryz.ntmps114
 go_wp2
 go_loopg [2] (Q.length + 1) (fun gk pv wr => ∃ (h' : Nat) (P' : Nat → Int) (Q' : List Nat), pv = .int .i64 h' ∧ Q.length + 1 ≤ gk + h' ∧ Hid (Way w wr B s S g c L I P Q h it P' Q' h') ∧ Hid (ahead I Q' h' it))
 case atStart => exact ⟨h, P, Q, rfl, by omega, HW0, HA0⟩
 case round =>
  obtain ⟨h', P', Q', rfl, hg, HW, HA⟩ := hrel
  have hlen := HW.out.hs.few
  have hlt := HW.out.lt
  have hqq := HW.out.len
  obtain ⟨b1, hb1⟩ : ∃ b1 : Nat, 2 * (h' : Int) + 1 = (b1 : Nat) := ⟨2 * h' + 1, by omega⟩
  obtain ⟨b2, hb2⟩ : ∃ b2 : Nat, (b1 : Int) + 1 = (b2 : Nat) := ⟨b1 + 1, by omega⟩
  have e1 := HW.out.hs.head
  obtain ⟨n, hn⟩ : ∃ n, Q'.length = n := ⟨_, rfl⟩
  rw [hn] at e1 hlen hlt
  by_cases hk : b1 < n
  ·obtain ⟨bh, tb, HB, hways⟩ : ∃ (bh : Nat) (tb : Bool), Hid (Kid I Q' h' bh) ∧ (bh = b1 ∧ tb = false ∧ (n ≤ b2 ∨ b2 < n ∧ un I (at' Q' b1) ≤ un I (at' Q' b2)) ∨ bh = b2 ∧ tb = true ∧ b2 < n ∧ un I (at' Q' b2) < un I (at' Q' b1)) := by
    have hkids : ∀ i, 0 < i → i < Q'.length → (i - 1) / 2 = h' → i = b1 ∨ i = b2 := fun i h1 h2 h3 => by omega
    by_cases h2 : b2 < n
    ·by_cases h3 : un I (at' Q' b2) < un I (at' Q' b1)
     ·refine ⟨b2, true, ⟨by omega, by omega, by omega, fun i i0 hi hp => ?_⟩, .inr ⟨rfl, rfl, h2, h3⟩⟩
      rcases hkids i i0 hi hp with rfl | rfl
      ·exact Int.le_of_lt h3
      ·exact Int.le_refl _
     ·refine ⟨b1, false, ⟨by omega, by omega, by omega, fun i i0 hi hp => ?_⟩, .inl ⟨rfl, rfl, .inr ⟨h2, by omega⟩⟩⟩
      rcases hkids i i0 hi hp with rfl | rfl
      ·exact Int.le_refl _
      ·omega
    ·refine ⟨b1, false, ⟨by omega, by omega, by omega, fun i i0 hi hp => ?_⟩, .inl ⟨rfl, rfl, .inl (by omega)⟩⟩
     rcases hkids i i0 hi hp with rfl | rfl
     ·exact Int.le_refl _
     ·omega
   go_upto_region 1 with fail
   go_cut [41] from 10 to 41 (fun v wx => v = .bool tb ∧ Hid (Below wr.heap.size wr wx))
   case first =>
    rcases hways with ⟨rfl, rfl, h2 | ⟨h2, h3⟩⟩ | ⟨rfl, rfl, h2, h3⟩
    ·have hg1 : decide (b2 < n) = false := decide_eq_false (by omega)
     go_quiet (fail)
     have HB1 : Hid (Below wr.heap.size wr (wr.drewN nq)) := Aa wr nq
     generalize wr.drewN nq = w1 at HB1 ⊢
     go_wp2
     go_meet
     exact ⟨rfl, HB1⟩
    ·have hg1 : decide (b2 < n) = true := decide_eq_true (by omega)
     have h2z : (b2 : Int) < n := by omega
     have hkz : (bh : Int) < n := by omega
     have e2 := HW.out.hs.cell (i := bh) (by omega) (by omega)
     have e3 := HW.out.hs.cell (i := b2) (by omega) (by omega)
     have e4 := HW.out.hs.its.cu (HW.out.hs.sub bh (by omega) (by omega))
     have e5 := HW.out.hs.its.cu (HW.out.hs.sub b2 (by omega) (by omega))
     generalize at' Q' bh = p1 at e2 e4 h3
     generalize at' Q' b2 = p2 at e3 e5 h3
     have hg2 : decide ((I p2).u < (I p1).u) = false := decide_eq_false (by show ¬ _; exact Int.not_lt.2 h3)
     clear h3
     go_quiet (fail)
     have HB1 : Hid (Below wr.heap.size wr (wr.drewN nq)) := Aa wr nq
     generalize wr.drewN nq = w1 at HB1 ⊢
     go_wp2
     go_meet
     exact ⟨rfl, HB1⟩
    ·have hg1 : decide (bh < n) = true := decide_eq_true (by omega)
     have h2z : (bh : Int) < n := by omega
     have hkz : (b1 : Int) < n := by omega
     have e2 := HW.out.hs.cell (i := b1) (by omega) (by omega)
     have e3 := HW.out.hs.cell (i := bh) (by omega) (by omega)
     have e4 := HW.out.hs.its.cu (HW.out.hs.sub b1 (by omega) (by omega))
     have e5 := HW.out.hs.its.cu (HW.out.hs.sub bh (by omega) (by omega))
     generalize at' Q' b1 = p1 at e2 e4 h3
     generalize at' Q' bh = p2 at e3 e5 h3
     have hg2 : decide ((I p2).u < (I p1).u) = true := decide_eq_true h3
     clear h3
     go_quiet (fail)
     have HB1 : Hid (Below wr.heap.size wr (wr.drewN nq)) := Aa wr nq
     generalize wr.drewN nq = w1 at HB1 ⊢
     go_wp2
     go_meet
     exact ⟨rfl, HB1⟩
   case rest =>
    obtain ⟨rfl, HB1⟩ := hcut
    have HW1 : Hid (Way w wc B s S g c L I P Q h it P' Q' h') := HW.out.keep HB1.out
    clear e1 HB1
    have hbz : (bh : Int) < n := by have := HB.out.lt; omega
    have hbn : bh < n := by omega
    have hbne : bh ≠ h' := by have := HB.out.par; have := HB.out.pos; omega
    have HBL : Hid (h' < bh) := by have := HB.out.par; have := HB.out.pos; show _ < _; omega
    go_upto_if 41 with fail
    go_cut [6] from 42 to 43 (fun v wy => v = .int .i64 (bh : Nat) ∧ wc = wy)
    case first =>
     rcases hways with ⟨rfl, rfl, -⟩ | ⟨rfl, rfl, -⟩
     ·go_wp2
      go_meet
      exact ⟨rfl, rfl⟩
     ·go_wp2
      go_meet
      exact ⟨rfl, rfl⟩
    case rest =>
     obtain ⟨rfl, rfl⟩ := hcut
     clear hways
     have hng : decide (n ≤ bh) = false := decide_eq_false (by omega)
     have e1 := HW1.out.hs.head
     rw [hn] at e1
     have e2 := HW1.out.hs.cell (i := bh) (by omega) hbne
     have hr := HW1.out.hs.sub bh (by omega) hbne
     obtain ⟨r, hre⟩ : ∃ r, at' Q' bh = r := ⟨_, rfl⟩
     rw [hre] at e2 hr
     have e3 := HW1.out.hs.its.cu hr
     have e4 := HW1.out.hs.its.cu hit
     have HRE : Hid (at' Q' bh = r) := hre
     clear hre
     by_cases hc : (I it).u ≤ (I r).u
     ·have HC : Hid ((I it).u ≤ (I r).u) := hc
      have hcz : decide ((I it).u ≤ (I r).u) = true := decide_eq_true hc
      clear hc
      go_upto_region 3 with fail
      go_quiet (fail)
      have HW2 : Hid (Way w (wc.drewN nq) B s S g c L I P Q h it P' Q' h') := HW1.out.keep (Aa wc nq)
      generalize wc.drewN nq = w1 at HW2 ⊢
      have HL := lay_any w1 B s S g c L I P' Q' h' HW2.out.hs it hit HW2.out.lt
      clear e1 e2 e3 e4
      go_wp2_with fail
      refine HL.mono ?_
      rintro e w2 ⟨rfl, hw2⟩
      have HR : Hid (SinkTo w w2 B s S g c L I P Q h it) := HW2.out.sunk hit hw2 HA.out (fun i i0 hi hp => by
       have := HB.out.min i i0 hi hp
       rw [HRE.out] at this
       exact Int.le_trans HC.out this)
      clear hw2 HL
      go_wp2
      go_end0
      exact ⟨rfl, HR.out⟩
     ·have HC : Hid ((I r).u ≤ (I it).u) := by show _ ≤ _; omega
      have hcz : decide ((I it).u ≤ (I r).u) = false := decide_eq_false hc
      clear hc
      go_upto_region 3 with fail
      go_quiet (fail)
      have HW2 : Hid (Way w (wc.drewN nq) B s S g c L I P Q h it P' Q' h') := HW1.out.keep (Aa wc nq)
      generalize wc.drewN nq = w1 at HW2 ⊢
      have HL := lay_any w1 B s S g c L I P' Q' h' HW2.out.hs r hr HW2.out.lt
      clear e1 e2 e3 e4
      have e1 := HW2.out.hs.head
      rw [hn] at e1
      have e2 := HW2.out.hs.cell (i := bh) (by omega) hbne
      rw [HRE.out] at e2
      go_wp2_with fail
      refine HL.mono ?_
      rintro e w2 ⟨rfl, hw2⟩
      have HW3 : Hid (Way w w2 B s S g c L I P Q h it (upd P' r h') (Q'.set h' r) bh ∧ ahead I (Q'.set h' r) bh it) := by
       obtain ⟨h1, h3⟩ := HW2.out.gap.down (x := it) HB.out.pos HB.out.lt HB.out.par HB.out.min (by rw [HRE.out]; exact HC.out)
       have h2 := HW2.out.fill HB.out.lt hbne (w' := w2) (by rw [HRE.out]; exact hw2) h1
       rw [HRE.out] at h2 h3
       exact ⟨h2, h3⟩
      clear hw2 HL e1 e2
      have hbl := HBL.out
      go_wp2
      go_roundg (gk - 1)
      case measure => omega
      case rel => exact ⟨bh, _, _, rfl, by omega, HW3.out.1, HW3.out.2⟩
  ·have hg1 : decide (b2 < n) = false := decide_eq_false (by omega)
   have hg2 : decide (n ≤ b1) = true := decide_eq_true (by omega)
   go_upto_region 1 with fail
   go_quiet (fail)
   have HW1 : Hid (Way w (wr.drewN nq) B s S g c L I P Q h it P' Q' h') := HW.out.keep (Aa wr nq)
   generalize wr.drewN nq = w1 at HW1 ⊢
   clear e1
   have e1 := HW1.out.hs.head
   rw [hn] at e1
   go_upto_region 3 with fail
   go_quiet (fail)
   have HW2 : Hid (Way w (w1.drewN nq) B s S g c L I P Q h it P' Q' h') := HW1.out.keep (Aa w1 nq)
   generalize w1.drewN nq = w2 at HW2 ⊢
   have HL := lay_any w2 B s S g c L I P' Q' h' HW2.out.hs it hit HW2.out.lt
   clear e1
   go_wp2_with fail
   refine HL.mono ?_
   rintro e w3 ⟨rfl, hw3⟩
   have HR : Hid (SinkTo w w3 B s S g c L I P Q h it) := HW2.out.sunk hit hw3 HA.out (fun i i0 hi hp => by omega)
   clear hw3 HL
   go_wp2
   go_end0
   exact ⟨rfl, HR.out⟩
theorem at_left {D : List Nat} {l i : Nat} (h : i < D.length) : at' (D ++ [l]) i = at' D i := by
 unfold at'
 rw [List.getD_eq_getElem?_getD, List.getD_eq_getElem?_getD, List.getElem?_append_left h]
theorem at_last (D : List Nat) (l : Nat) : at' (D ++ [l]) D.length = l := by
 unfold at'
 rw [List.getD_eq_getElem?_getD]
 simp
theorem set_at {Q : List Nat} {h : Nat} (hl : h < Q.length) : Q.set h (at' Q h) = Q := by
 unfold at'
 rw [List.getD_eq_getElem?_getD, List.getElem?_eq_getElem hl]
 exact List.set_getElem_self hl
theorem mem_swap {P : Nat → Int} {D : List Nat} {l j : Nat} (hn : Plcs P (D ++ [l])) (hj : j < D.length) (q : Nat) : q ∈ D.set j l ↔ q ≠ at' D j ∧ q ∈ D ++ [l] := by
 have hl : (D ++ [l]).length = D.length + 1 := by simp
 constructor
 ·intro h
  rcases mem_set hj h with rfl | ⟨i, hi, hne, rfl⟩
  ·refine ⟨fun e => ?_, by simp⟩
   have := hn.inj (i := D.length) (j := j) (by omega) (by omega) (by rw [at_last, at_left hj]; exact e)
   omega
  ·refine ⟨fun e => ?_, List.mem_append_left _ (at_mem hi)⟩
   exact hne (hn.inj (i := i) (j := j) (by omega) (by omega) (by rw [at_left hi, at_left hj]; exact e))
 ·rintro ⟨h1, h2⟩
  rcases List.mem_append.1 h2 with h2 | h2
  ·obtain ⟨i, hi, rfl⟩ := at_ex h2
   have hne : i ≠ j := fun e => h1 (by rw [e])
   have := at_mem (Q := D.set j l) (i := i) (by rw [List.length_set]; exact hi)
   rw [at_ne hne] at this
   exact this
  ·rw [List.mem_singleton] at h2
   subst h2
   have := at_mem (Q := D.set j q) (i := j) (by rw [List.length_set]; exact hj)
   rw [at_eq rfl hj] at this
   exact this
theorem Tryz.sizeI (w : World) : (sizeOf 78).run Tryz.prog w = .ok 1 w := by go_simp
theorem Tryz.elemI : Tryz.prog.elem 81 = 78 := by simp [Program.elem, Tryz.underlying81]
theorem Bq (g n c hi : Nat) (h1 : hi ≤ c) :
  ∀ wx, (Instr.sliceAt 81 (.slice (some ⟨g, 0, none⟩) n c) none (some (.int .i64 hi)) none).run Tryz.prog wx = .ok (.slice (some ⟨g, 0, none⟩) hi c) wx := by
 have ht : Tryz.prog.underlying 81 = some (.slice (Tryz.prog.elem 81)) := by rw [Tryz.elemI]; exact Tryz.underlying81
 intro wx
 rw [run_sliceAt_slice _ _ _ _ _ _ ht, run_slice_h (P := Tryz.prog) wx 81 _ n c ht .i64 hi (by omega) (by omega), Tryz.elemI, Tryz.sizeI]
 simp [Result.andThen, sliced, Af]
theorem Tryz.infoI : (Tryz.prog.info? 78).map (fun i => (i.zero, i.size, i.bytes)) = some (some (.pointer none), 1, 8) := by kernel_rfl
theorem Tryz.infoJ : (Tryz.prog.info? 96).map (fun i => i.size) = some 4 := by kernel_rfl
theorem infoJ_ex : ∃ j, Tryz.prog.info? 96 = some j ∧ j.size ≠ 0 := by
 have h := Tryz.infoJ
 cases hj : Tryz.prog.info? 96 with
 | none => rw [hj] at h; cases h
 | some j =>
  rw [hj] at h
  refine ⟨j, rfl, ?_⟩
  have : j.size = 4 := Option.some.inj h
  omega
theorem neqI_same (w : World) (k : Nat) : (binOp .neq 78 (ptr k) (ptr k)).run Tryz.prog w = .ok (.bool false) w := by
 obtain ⟨j, hj, -⟩ := infoJ_ex
 exact Lib.run_neq_ptr_same w ⟨k, 0, none⟩ Tryz.underlying78 hj
theorem neqI_other {w : World} {k q : Nat} {ca cb : Array Value} {ta tb : TypeId} (h : k ≠ q) (ha : w.heap[k]? = some (.cells ca ta (0, 0))) (hb : w.heap[q]? = some (.cells cb tb (0, 0))) : (binOp .neq 78 (ptr k) (ptr q)).run Tryz.prog w = .ok (.bool true) w := by
 obtain ⟨j, hj, hs⟩ := infoJ_ex
 have hne : (⟨k, 0, none⟩ : Addr) ≠ ⟨q, 0, none⟩ := by intro e; injection e with e1; exact h e1
 have hh : ∀ d : Nat, (Op.equalIn (d + 1) 78 (ptr k) (ptr q)).run Tryz.prog w = .ok false w := fun d => by
  simp [Op.equalIn, run_underlying Tryz.underlying78, sizeOf, typeInfo, hj, hs, run_sameAddr_other w hne ha hb]
 simp only [binOp]
 simp [Op.equal, Op.maxDepth, hh 9999]
def Tells (e : Ending) (P : Prop) : Prop := ∃ r : Bool, e = .returned (.bool r) ∧ (r = true ↔ P)
theorem Tells.yes {P : Prop} (h : P) : Tells (.returned (.bool true)) P := ⟨true, rfl, fun _ => h, fun _ => rfl⟩
theorem Tells.no {P : Prop} (h : ¬ P) : Tells (.returned (.bool false)) P := ⟨false, rfl, fun h1 => (by cases h1), fun h1 => absurd h1 h⟩
theorem isDue_any (w : World) (B s : Nat) (S : Sd) (L : List Nat) (I : Nat → Itm) (P : Nat → Int) (Q : List Nat) (H : Qs w B s S L I P Q) (t : Int) :
  Calls Tryz.prog 67 #[qp s, .int .i64 t] w fun e w' => w' = w ∧ Tells e (0 < Q.length ∧ (I (at' Q 0)).u ≤ t) := by
 obtain ⟨a, c, e1⟩ := H.head
 have hle := H.le
 by_cases h0 : 0 < Q.length
 ·obtain ⟨g, c', hH⟩ := H.hs h0 Q.length
  have HF := first_any w B s S g c' L I P Q Q.length hH h0 (by omega)
  have e3 := H.its.cu (H.sub _ (at_mem h0))
  have hz : (0 : Int) < Q.length := by omega
  clear hH H
  generalize at' Q 0 = p at HF e3 ⊢
  generalize Q.length = n at e1 h0 hz hle ⊢
  by_cases hu : (I p).u ≤ t
  ·have HU : Hid ((I p).u ≤ t) := hu
   have hd : decide ((I p).u ≤ t) = true := decide_eq_true hu
   clear hu
   generalize (I p).u = u at *
   go_enter Tryz.func67, Tryz.ntmps67
   go_wp2_with fail
   refine HF.mono ?_
   rintro e w ⟨rfl, rfl⟩
   go_wp2
   go_ret
   exact ⟨rfl, Tells.yes ⟨h0, HU.out⟩⟩
  ·have HU : Hid (t < (I p).u) := Int.not_le.1 hu
   have hd : decide ((I p).u ≤ t) = false := decide_eq_false hu
   clear hu
   generalize (I p).u = u at *
   go_enter Tryz.func67, Tryz.ntmps67
   go_wp2_with fail
   refine HF.mono ?_
   rintro e w ⟨rfl, rfl⟩
   go_wp2
   go_ret
   exact ⟨rfl, Tells.no fun h => absurd h.2 (Int.not_le.2 HU.out)⟩
 ·have hn : Q.length = 0 := by omega
  rw [hn] at e1
  clear H
  go_enter Tryz.func67, Tryz.ntmps67
  go_wp2
  go_ret
  exact ⟨rfl, Tells.no fun h => absurd h.1 h0⟩
theorem Hs.cut {w : World} {B s : Nat} {S : Sd} {g c : Nat} {L : List Nat} {I : Nat → Itm} {P : Nat → Int} {D : List Nat} {l h : Nat} (H : Hs w B s S g c L I P (D ++ [l]) (D ++ [l]).length) {w2 : World} (hw : w2 = (w.setCell ⟨g, D.length, none⟩ (.pointer none)).setCell ⟨s, 4, none⟩ (.slice (some ⟨g, 0, none⟩) D.length c)) :
  Hs w2 B s S g c L I P D h ∧ Mb qtag B w w2 := by
 obtain ⟨cur, k1, k2, k3⟩ := H.row.ex
 have hl : (D ++ [l]).length = D.length + 1 := by simp
 have hsg : s ≠ g := Bj H.blk k1 (by decide)
 have n1 : (w.setCell ⟨g, D.length, none⟩ (.pointer none)).heap[s]? = some (.cells (By S (.slice (some ⟨g, 0, none⟩) (D ++ [l]).length c)) 85 (0, 0)) := by rw [Ar hsg]; exact H.blk
 subst hw
 refine ⟨⟨?_, ⟨⟨cur.setIfInBounds D.length (.pointer none), ?_, by rw [Array.size_setIfInBounds]; exact k2, ?_⟩, by have := H.row.le; omega, H.row.mx, H.row.low⟩, ?_, ?_, ?_, H.low, by have := H.few; omega⟩, (Mb.set k1 (by decide) H.row.low).trans (Mb.set n1 (by decide) H.low)⟩
 ·rw [Ak n1]; rfl
 ·rw [Ar (Ne.symm hsg), Ak k1]
 ·intro i hi _
  rw [Array.getElem?_setIfInBounds_ne (by omega), k3 i (by omega) (by omega), at_left hi]
 ·intro p hp
  refine ⟨(H.its p hp).1, ?_⟩
  rw [Ar (Ne.symm (Bj H.blk (H.its p hp).2 (by decide))), Ar (Ne.symm (Bj k1 (H.its p hp).2 (by decide)))]
  exact (H.its p hp).2
 ·intro i hi _
  have := H.sub i (by omega) (by omega)
  rwa [at_left hi] at this
 ·intro i hi _
  have := H.plc i (by omega) (by omega)
  rwa [at_left hi] at this
def DropTo (w w' : World) (B s : Nat) (S : Sd) (L : List Nat) (I : Nat → Itm) (Q : List Nat) (p : Nat) : Prop := Mb qtag B w w' ∧ ∃ P' Q', Qs w' B s S L I P' Q' ∧ ∀ q, q ∈ Q' ↔ q ≠ p ∧ q ∈ Q
theorem drop_no (w : World) (B s : Nat) (S : Sd) (L : List Nat) (I : Nat → Itm) (P : Nat → Int) (Q : List Nat) (H : Qs w B s S L I P Q) (p : Nat) (hp : p ∈ L) (hq : p ∉ Q) :
  Calls Tryz.prog 75 #[qp s, ptr p] w fun e w' => e = .returned (.tuple #[]) ∧ w' = w := by
 have e1 := H.its.cp hp
 rw [H.out p hp hq] at e1
 have HT := isTimed_any w p _ e1
 rw [decide_eq_false (by decide)] at HT
 clear H
 go_enter Tryz.func75, Tryz.ntmps75
 go_wp2_with fail
 refine HT.mono ?_
 rintro e w ⟨rfl, rfl⟩
 go_wp2
 (try simp only [Exit.inBlock, Exit.then])
 refine bodyPost_ret (results_none rfl _ _ _) rfl ?_
 exact ⟨rfl, rfl⟩
theorem Fin.away {w0 w : World} {B s : Nat} {S : Sd} {g c : Nat} {L : List Nat} {I : Nat → Itm} {P0 P : Nat → Int} {Q0 Q : List Nat} {h0 it p : Nat} (F : Fin w0 w B s S g c L I P0 Q0 h0 it P Q) (ho : Ord (un I) Q) (hp : p ∈ L) (hpn : p ∉ Q0.set h0 it) (hout : ∀ q ∈ L, q ∉ Q0.set h0 it → q ≠ p → P0 q = -1) (hn : L.Nodup) (hf : L.length ≤ 1000000) {w' : World} (hw : w' = w.setCell ⟨p, 3, none⟩ (.int .i64 (-1))) : Qs w' B s S L I (upd P p (-1)) Q ∧ Mb qtag B w0 w' := by
 have hI := F.hs.its p hp
 have hpq : p ∉ Q := fun h => hpn (F.perm.mem_iff.1 h)
 obtain ⟨cur, k1, k2⟩ := F.hs.row.ex
 subst hw
 have h1 : Hs (w.setCell ⟨p, 3, none⟩ (.int .i64 (-1))) B s S g c L I (upd P p (-1)) Q Q.length := by
  refine ⟨?_, ⟨⟨cur, ?_, k2⟩, F.hs.row.le, F.hs.row.mx, F.hs.row.low⟩, F.hs.its.place hp (-1), F.hs.sub, fun i hi hne => ?_, F.hs.low, F.hs.few⟩
  ·rw [Ar (Bj F.hs.blk hI.2 (by decide))]; exact F.hs.blk
  ·rw [Ar (Bj k1 hI.2 (by decide))]; exact k1
  ·rw [Bl]
   ·exact F.hs.plc i hi hne
   ·exact fun e => hpq (by rw [← e]; exact at_mem hi)
 refine ⟨h1.qs ho (fun q hq hqn => ?_) hn hf, F.mv.trans (Mb.set hI.2 (by decide) hI.1)⟩
 by_cases e : q = p
 ·rw [e, Br]
 ·rw [Bl _ _ e]
  have hqn' : q ∉ Q0.set h0 it := fun h => hqn (F.perm.mem_iff.2 h)
  rw [F.out q hqn']
  exact hout q hq hqn' e
theorem drop_yes (w : World) (B s : Nat) (S : Sd) (L : List Nat) (I : Nat → Itm) (P : Nat → Int) (Q : List Nat) (H : Qs w B s S L I P Q) (p : Nat) (hp : p ∈ L) (hq : p ∈ Q) :
  Calls Tryz.prog 75 #[qp s, ptr p] w fun e w' => e = .returned (.tuple #[]) ∧ DropTo w w' B s S L I Q p := by
 have h0 : 0 < Q.length := List.length_pos_of_mem hq
 obtain ⟨j, hj, hjp⟩ := at_ex hq
 have hpj := H.plc j hj
 rw [hjp] at hpj
 have e1 := H.its.cp hp
 rw [hpj] at e1
 have HT := isTimed_any w p _ e1
 rw [decide_eq_true (by omega)] at HT
 obtain ⟨g, c, hH⟩ := H.hs h0 Q.length
 obtain ⟨D, l, rfl⟩ : ∃ D l, Q = D ++ [l] := ⟨Q.dropLast, Q.getLast (by intro e; rw [e] at h0; simp at h0), (List.dropLast_concat_getLast _).symm⟩
 have hlen : (D ++ [l]).length = D.length + 1 := by simp
 have HQ : Hid (Qs w B s S L I P (D ++ [l])) := H
 have hl : l ∈ L := H.sub l (by simp)
 have e2 := hH.head
 have e3 := hH.cell (i := D.length) (by omega) (by omega)
 rw [at_last] at e3
 have e4 := hH.fz D.length
 obtain ⟨n, hn⟩ : ∃ n, D.length = n := ⟨_, rfl⟩
 have hfew := hH.few
 have hc := hH.row.le
 rw [hlen] at e2 hfew hc hj
 obtain ⟨cur, k1, -⟩ := hH.row.ex
 obtain ⟨w1, hw1⟩ : ∃ w1, w.setCell ⟨g, n, none⟩ (.pointer none) = w1 := ⟨_, rfl⟩
 obtain ⟨w2, hw2⟩ : ∃ w2, w1.setCell ⟨s, 4, none⟩ (.slice (some ⟨g, 0, none⟩) n c) = w2 := ⟨_, rfl⟩
 have hs1 : w1.heap[s]? = some (.cells (By S (.slice (some ⟨g, 0, none⟩) (D.length + 1) c)) 85 (0, 0)) := by
  rw [← hw1, Ar (Bj hH.blk k1 (by decide)), hH.blk, hlen]
 have f1 : w1.cell? ⟨s, 4, none⟩ = some (.slice (some ⟨g, 0, none⟩) (D.length + 1) c) := by simp [World.cell?, hs1]
 have f2 : w1.frozen? ⟨s, 4, none⟩ = false := by simp [World.frozen?, hs1]
 have hcut := fun h => hH.cut (h := h) (w2 := w2) (by rw [← hw2, ← hw1, hn])
 have hsl := Bq g (n + 1) c n (by omega)
 rw [hn] at e2 e3 e4 f1 hj hfew hc
 have HC : Hid (∀ h, Hs w2 B s S g c L I P D h ∧ Mb qtag B w w2) := hcut
 have HPl : Hid (at' (D ++ [l]) j = p) := hjp
 have HN : Hid (D.length = n) := hn
 clear hcut hjp hn hs1 k1 hH H hpj
 have g1 := (HC.out (n + 1)).1.its.cp hp
 rw [show P p = j from by have := HQ.out.plc j (by rw [hlen, HN.out]; omega); rw [HPl.out] at this; exact this] at g1
 have g3 := (HC.out (n + 1)).1.its.fz hp 3
 have hnz : ((n : Nat) : Int) + 1 - 1 = n := by omega
 by_cases hlp : l = p
 ·subst hlp
  have hnq := neqI_same w2 l
  have HE : Hid (DropTo w (w2.setCell ⟨l, 3, none⟩ (.int .i64 (-1))) B s S L I (D ++ [l]) l) := by
   obtain ⟨h1, h2⟩ := HC.out D.length
   have hnd := HQ.out.plc.nod
   rw [List.nodup_append] at hnd
   have hld : l ∉ D := fun h => hnd.2.2 l h l (by simp) rfl
   have hI := h1.its l hl
   obtain ⟨cur2, k1, k2⟩ := h1.row.ex
   refine ⟨h2.trans (Mb.set hI.2 (by decide) hI.1), upd P l (-1), D, ?_, fun q => ⟨fun h => ⟨fun e => hld (by rw [← e]; exact h), List.mem_append_left _ h⟩, fun h => ?_⟩⟩
   ·refine Hs.qs (g := g) (c := c) ⟨?_, ⟨⟨cur2, ?_, k2⟩, h1.row.le, h1.row.mx, h1.row.low⟩, h1.its.place hl (-1), h1.sub, fun i hi hne => ?_, h1.low, h1.few⟩ HQ.out.ord.cut (fun q hq hqn => ?_) HQ.out.nod HQ.out.few
    ·rw [Ar (Bj h1.blk hI.2 (by decide))]; exact h1.blk
    ·rw [Ar (Bj k1 hI.2 (by decide))]; exact k1
    ·rw [Bl]
     ·exact h1.plc i hi hne
     ·exact fun e => hld (by rw [← e]; exact at_mem hi)
    ·by_cases e : q = l
     ·rw [e, Br]
     ·rw [Bl _ _ e]
      exact HQ.out.out q hq (fun h => (List.mem_append.1 h).elim hqn (fun h => e (List.mem_singleton.1 h)))
   ·rcases List.mem_append.1 h.2 with h3 | h3
    ·exact h3
    ·exact absurd (List.mem_singleton.1 h3) h.1
  go_enter Tryz.func75, Tryz.ntmps75
  go_wp2_with fail
  refine HT.mono ?_
  rintro e w ⟨rfl, rfl⟩
  go_wp2
  go_end0
  exact ⟨rfl, HE.out⟩
 ·have hjn : j < n := by
   rcases Nat.lt_or_ge j n with h | h
   ·exact h
   ·exfalso
    obtain rfl : j = n := by omega
    have := HPl.out
    rw [← HN.out, at_last] at this
    exact hlp this
  have HI2 := fun q (hq : q ∈ L) => (HC.out j).1.its q hq
  have hnq := neqI_other hlp (HI2 l hl).2 (HI2 p hp).2
  have HW0 : Hid (Way w2 w2 B s S g c L I P D j l P D j) := by
   obtain ⟨h1, h2⟩ := HC.out j
   refine ⟨h1, HQ.out.ord.cut.gapAt j (by rw [HN.out]; exact hjn), by rw [HN.out]; exact hjn, fun i hi _ e => ?_, List.Perm.refl _, fun _ _ => rfl, Mb.refl _ _ _⟩
   have h3 := HQ.out.plc.inj (i := i) (j := D.length) (by rw [hlen]; omega) (by rw [hlen]; omega) (by rw [at_left hi, at_last]; exact e)
   omega
  have HR := rise_any w2 B s S g c L I P D j l HW0.out hl
  have HL : Hid (l ≠ p) := hlp
  clear HI2 hlp
  go_enter Tryz.func75, Tryz.ntmps75
  go_wp2_with fail
  refine HT.mono ?_
  rintro e w ⟨rfl, rfl⟩
  go_wp2_with fail
  refine HR.mono ?_
  rintro e w3 ⟨rfl, P', Q', h', hF, hlt, hat, hpl, hgap, hah, -⟩
  have HF : Hid (Fin w2 w3 B s S g c L I P D j l P' Q') := hF
  have m1 := hF.hs.its.cp hl
  rw [hpl] at m1
  have hset : Q'.set h' l = Q' := by rw [← hat]; exact set_at hlt
  have HSet : Hid (Q'.set h' l = Q') := hset
  have hW1 : Way w3 w3 B s S g c L I P' Q' h' l P' Q' h' := by
   refine ⟨⟨hF.hs.blk, ?_, hF.hs.its, fun i hi _ => hF.hs.sub i hi (by omega), fun i hi _ => hF.hs.plc i hi (by omega), hF.hs.low, hF.hs.few⟩, hgap, hlt, fun i hi hne e => ?_, List.Perm.refl _, fun _ _ => rfl, Mb.refl _ _ _⟩
   ·obtain ⟨cur, k1, k2, k3⟩ := hF.hs.row.ex
    exact ⟨⟨cur, k1, k2, fun i hi _ => k3 i hi (by omega)⟩, hF.hs.row.le, hF.hs.row.mx, hF.hs.row.low⟩
   ·have h3 := hF.hs.plc i hi (by omega)
    rw [e, hpl] at h3
    omega
  have HS := sink_any w3 B s S g c L I P' Q' h' l hW1 hah hl
  clear hF hgap hah hlt hat hpl hset hW1 HR hnq
  go_wp2_with fail
  refine HS.mono ?_
  rintro e w4 ⟨rfl, P2, Q2, hF2, hord⟩
  have hF3 := HF.out.ofWay hF2 HSet.out
  have m3 := hF3.hs.its.cp hp
  have m4 := hF3.hs.its.fz hp 3
  have HE : Hid (DropTo w (w4.setCell ⟨p, 3, none⟩ (.int .i64 (-1))) B s S L I (D ++ [l]) p) := by
   have hjD : j < D.length := by rw [HN.out]; exact hjn
   have hpe : at' D j = p := by have := HPl.out; rwa [at_left hjD] at this
   have hsw := mem_swap HQ.out.plc hjD
   rw [hpe] at hsw
   obtain ⟨k1, k2⟩ := hF3.away hord hp (fun h => ((hsw p).1 h).1 rfl) (fun q hq hqn hqp => HQ.out.out q hq (fun h => hqn ((hsw q).2 ⟨hqp, h⟩))) HQ.out.nod HQ.out.few rfl
   exact ⟨(HC.out j).2.trans k2, _, Q2, k1, fun q => (hF3.perm.mem_iff).trans (hsw q)⟩
  clear hF2 hord hF3 HS m1
  go_wp2
  go_end0
  exact ⟨rfl, HE.out⟩
theorem drop_any (w : World) (B s : Nat) (S : Sd) (L : List Nat) (I : Nat → Itm) (P : Nat → Int) (Q : List Nat) (H : Qs w B s S L I P Q) (p : Nat) (hp : p ∈ L) :
  Calls Tryz.prog 75 #[qp s, ptr p] w fun e w' => e = .returned (.tuple #[]) ∧ DropTo w w' B s S L I Q p := by
 by_cases hq : p ∈ Q
 ·exact drop_yes w B s S L I P Q H p hp hq
 ·refine (drop_no w B s S L I P Q H p hp hq).mono ?_
  rintro e w' ⟨rfl, rfl⟩
  exact ⟨rfl, Mb.refl _ _ _, P, Q, H, fun q => ⟨fun h => ⟨fun e => hq (by rw [← e]; exact h), h⟩, fun h => h.2⟩⟩
end Go.Proofs.YtmjeljldmmkcpaaGreat.Sq
