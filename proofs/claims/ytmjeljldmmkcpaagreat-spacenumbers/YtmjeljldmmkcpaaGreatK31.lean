/- Texts that the others stand on. -/
import Derived.Test.YtmjeljldmmkcpaaGreatK30
set_option maxRecDepth 100000
namespace Go.Proofs.YtmjeljldmmkcpaaGreat.Sq
open Go.RowKit Go.PlainAid
open Dk (ptr Aa Ac Ad Af OwnR OwnP OwnS Mv Am Elt A4)
theorem kents_same {L : List Nat} {I J : Nat → Itm} (h : ∀ p ∈ L, (J p).k = (I p).k) : kents L J = kents L I := List.map_congr_left fun p hp => by rw [h p hp]
section
variable {w w' : World} {B s x : Nat} {NM : List BA} {L : List Nat} {I : Nat → Itm} {Q : List Nat} {V : BA → Int} {S : Sd} {P : Nat → Int} {D : Dk.Dg} {D2 : Zs.Dk.Dg}
theorem Sx.queue (H : Sx w B s x NM L I Q V S P D D2) (hm : Mb qtag B w w') {J : Nat → Itm} {P' : Nat → Int} {Q' : List Nat} (hq : Qs w' B s S L J P' Q') (hk : ∀ p ∈ L, (J p).k = (I p).k) : Sx w' B s x NM L J Q' V S P' D D2 :=
 ⟨H.sx, hq, H.kd.mv hm.mv d_q, H.vd.mv (toE hm.mv) e_q, by rw [kents_same hk]; exact H.kp, H.vp, H.vn, fun p hp => by rw [hk p hp]; exact H.key p hp, H.nm, H.sz⟩
theorem kents_erase {p : Nat} (hp : p ∈ L) : (kents L I).Perm (((I p).k, adr p) :: kents (L.erase p) I) := (List.perm_cons_erase hp).map _
theorem Sx.del (H : Sx w B s x NM L I Q V S P D D2) {D' : Dk.Dg} (hT : Dk.Turn w w' B S.d x D D') {p : Nat} (hp : p ∈ L) (hq : p ∉ Q) (hd : D'.es.Perm (Dk.delE D.es (I p).k)) : Sx w' B s x NM (L.erase p) I Q V S P D' D2 ∧ Mb stag B w w' := by
 have hm := hT.mv H.kd
 have h1 : D.es.Perm (((I p).k, adr p) :: kents (L.erase p) I) := H.kp.trans (kents_erase hp)
 have hn : (Dk.Ae ([] ++ ((I p).k, adr p) :: kents (L.erase p) I)).Nodup := (h1.map (·.1)).nodup_iff.1 H.kd.nodk
 have h2 := Dk.delE_perm h1 (I p).k
 have h3 := Dk.delE_old hn
 rw [List.nil_append] at h3
 rw [h3] at h2
 exact ⟨⟨H.sx, (H.qs.mv hm q_d).less hq, hT.dct, H.vd.mv (toE hm) e_d, hd.trans h2, H.vp, H.vn, fun q h => H.key q (List.mem_of_mem_erase h), H.nm, H.sz⟩, Mb.mono ⟨hm, hT.below H.kd⟩ stag_d⟩
theorem Sx.put (H : Sx w B s x NM L I Q V S P D D2) {w0 : World} {p : Nat} (hm0 : Below w.heap.size w w0) {i : Itm} (hq : Qs w0 B s S (p :: L) (upd I p i) (upd P p (-1)) Q) (hpL : p ∉ L) {D' : Dk.Dg} (hT : Dk.Turn w0 w' B S.d x D D') (hk : i.k ∈ NM) (hn : ∀ q ∈ L, (I q).k ≠ i.k) (hd : D'.es.Perm (Dk.putE D.es i.k (adr p))) : Sx w' B s x NM (p :: L) (upd I p i) Q V S (upd P p (-1)) D' D2 ∧ Mb stag B w w' := by
 have hD0 := H.kd.keep hm0
 have hm := hT.mv hD0
 have hk1 : kents L (upd I p i) = kents L I := kents_same fun q hq => by rw [Bl _ _ (fun e => hpL (by rw [← e]; exact hq))]
 have hnk : Dk.hasK D.es i.k = false := (H.lacks hn).2
 refine ⟨⟨H.sx, hq.mv hm q_d, hT.dct, (H.vd.keep hm0).mv (toE hm) e_d, ?_, H.vp, H.vn, fun q hq => ?_, H.nm, H.sz⟩, (Mb.of_below hm0 (by have := H.lt; omega)).trans (Mb.mono ⟨hm, hT.below hD0⟩ stag_d)⟩
 ·unfold Dk.putE at hd
  rw [if_neg (by rw [hnk]; decide)] at hd
  refine hd.trans ?_
  have e : kents (p :: L) (upd I p i) = (i.k, adr p) :: kents L I := by rw [← hk1]; unfold kents; rw [List.map_cons, Br]
  rw [e]
  exact (List.perm_append_singleton _ _).trans (List.Perm.cons _ H.kp)
 ·rcases List.mem_cons.1 hq with rfl | h
  ·rw [Br]; exact hk
  ·rw [Bl _ _ (fun e => hpL (by rw [← e]; exact h))]; exact H.key q h
end
def TakeTo (w w' : World) (B s x : Nat) (NM : List BA) (L : List Nat) (I : Nat → Itm) (Q : List Nat) (V : BA → Int) (p : Nat) : Prop :=
 Mb stag B w w' ∧ ∃ Q', In w' B s x NM (L.erase p) I Q' (incV V (I p).k) ∧ ∀ q, q ∈ Q' ↔ q ≠ p ∧ q ∈ Q
theorem take_any (w : World) (B s x : Nat) (NM : List BA) (L : List Nat) (I : Nat → Itm) (Q : List Nat) (V : BA → Int) (hI : In w B s x NM L I Q V) (p : Nat) (hp : p ∈ L) (hv : ∀ k, 0 ≤ V k ∧ V k < 4611686018427387904) :
  Calls Tryz.prog 49 #[ptr s, ptr p] w fun e w' => e = .returned (.tuple #[]) ∧ TakeTo w w' B s x NM L I Q V p := by
 obtain ⟨S, P, D, D2, hX⟩ := hI
 have HX : Hid (Sx w B s x NM L I Q V S P D D2) := hX
 have HD := drop_any w B s S L I P Q hX.qs p hp
 clear hX
 go_enter Tryz.func49, Tryz.ntmps49
 go_wp2_with fail
 refine HD.mono ?_
 rintro e w1 ⟨rfl, hm1, P', Q', hq1, hmem⟩
 have HX1 : Hid (Sx w1.drew B s x NM L I Q' V S P' D D2) := (HX.out.queue hm1 hq1 (fun _ _ => rfl)).keep (Aa w1 1)
 have HM1 : Hid (Mb stag B w w1.drew) := (Mb.mono hm1 stag_q).trans (Mb.of_below (Aa w1 1) (by obtain ⟨a, c, h1, -⟩ := hq1.ex; exact Nat.le_trans hq1.low (Nat.le_of_lt (Array.getElem?_eq_some_iff.1 h1).1)))
 have HMem : Hid (∀ q, q ∈ Q' ↔ q ≠ p ∧ q ∈ Q) := hmem
 have c3 := HX1.out.cd
 have c0 := HX1.out.qs.its.ck hp
 have HDel := Dk.DelD B S.d x D (I p).k w1.drew HX1.out.kd (HX1.out.mx (HX1.out.key p hp))
 clear hm1 hq1 hmem HD
 go_upto_region 1 with fail
 go_region_with (first
  | (go_at_call 94; refine HDel.mono ?_; rintro e w2 ⟨rfl, D', hT, hd⟩))
 all_goals
  obtain ⟨hX2, hM2⟩ := HX1.out.del hT hp (fun h => ((HMem.out p).1 h).1 rfl) hd
  have HIn : Hid (In w2 B s x NM (L.erase p) I Q' V) := ⟨S, P', D', D2, hX2⟩
  have HM2 : Hid (Mb stag B w w2) := HM1.out.trans hM2
  have c0' : w2.cell? ⟨p, 0, none⟩ = some (.string (I p).k) := by
   have h1 := (HX1.out.qs.its p hp).2
   have h2 := (hT.mv HX1.out.kd).block p _ _ h1 (by decide)
   rw [h1] at h2
   simp [World.cell?, h2]
  have HC := change_any w2 B s x NM (L.erase p) I Q' V HIn.out (I p).k (HX1.out.key p hp) (hv _)
  clear hX2 hM2 hT hd HDel c3 c0
  go_wp2_with fail
  refine HC.mono ?_
  rintro e w3 ⟨rfl, hm3, hin3⟩
  have HE : Hid (TakeTo w w3 B s x NM L I Q V p) := ⟨HM2.out.trans hm3, Q', hin3, HMem.out⟩
  clear hm3 hin3 HC
  go_wp2
  go_end0
  exact ⟨rfl, HE.out⟩
def Due (A A' : Ab) (V V' : BA → Int) (t : Int) : Prop := ∀ k, A' k = A k ∧ V' k = V k ∨ ∃ v e, A k = some (v, some e) ∧ e ≤ t ∧ A' k = none ∧ V' k = V k + 1
theorem Due.le {A A' : Ab} {V V' : BA → Int} {t : Int} (h : Due A A' V V' t) (k : BA) : V k ≤ V' k ∧ V' k ≤ V k + 1 := by
 rcases h k with ⟨-, h2⟩ | ⟨v, e, -, -, -, h2⟩ <;> omega
theorem Due.done {A A' : Ab} {V V' : BA → Int} {t : Int} (h : Due A A' V V' t) (hs : Still A' t) : A' = dueA A t ∧ V' = dueV A V t := by
 constructor
 ·funext k
  unfold dueA
  rcases h k with ⟨h1, -⟩ | ⟨v, e, h1, h2, h3, -⟩
  ·rw [h1]
   split
   ·rename_i v e he
    rw [if_neg (by have := hs k v e (by rw [h1]; exact he); omega), he]
   ·rfl
  ·rw [h1, h3]
   simp [h2]
 ·funext k
  unfold dueV
  rcases h k with ⟨h1, h4⟩ | ⟨v, e, h1, h2, h3, h4⟩
  ·rw [h4]
   split
   ·rename_i v e he
    rw [if_neg (by have := hs k v e (by rw [h1]; exact he); omega)]
   ·rfl
  ·rw [h1, h4]
   simp [h2]
theorem Due.step {A A' : Ab} {V V' : BA → Int} {t : Int} (h : Due A A' V V' t) {k : BA} {v : Option Addr} {e : Int} (hk : A' k = some (v, some e)) (he : e ≤ t) : Due A (setA A' k none) V (incV V' k) t := by
 intro j
 unfold setA incV
 by_cases hj : j = k
 ·rw [if_pos hj, if_pos hj, hj]
  rcases h k with ⟨h1, h2⟩ | ⟨v', e', -, -, h3, -⟩
  ·exact .inr ⟨v, e, by rw [← h1]; exact hk, he, rfl, by rw [h2]⟩
  ·rw [h3] at hk; cases hk
 ·rw [if_neg hj, if_neg hj]
  exact h j
theorem Rep.del {L : List Nat} {I : Nat → Itm} {Q Q' : List Nat} {A : Ab} (h : Rep L I Q A) (hinj : ∀ q ∈ L, ∀ r ∈ L, (I q).k = (I r).k → q = r) (hnd : L.Nodup) {p : Nat} (hp : p ∈ L) (hm : ∀ q, q ∈ Q' ↔ q ≠ p ∧ q ∈ Q) : Rep (L.erase p) I Q' (setA A (I p).k none) := by
 constructor
 ·intro q hq
  have hqL := List.mem_of_mem_erase hq
  have hne : q ≠ p := fun e => by rw [e] at hq; exact (hnd.mem_erase_iff.1 hq).1 rfl
  unfold setA
  rw [if_neg (fun e => hne (hinj q hqL p hp e)), h.yes q hqL]
  by_cases hQ : q ∈ Q
  ·rw [if_pos hQ, if_pos ((hm q).2 ⟨hne, hQ⟩)]
  ·rw [if_neg hQ, if_neg (fun e => hQ ((hm q).1 e).2)]
 ·intro k y hk
  unfold setA at hk
  by_cases e : k = (I p).k
  ·rw [if_pos e] at hk; cases hk
  ·rw [if_neg e] at hk
   obtain ⟨q, hq, rfl⟩ := h.no k y hk
   exact ⟨q, hnd.mem_erase_iff.2 ⟨fun e2 => e (by rw [e2]), hq⟩, rfl⟩
theorem In.inj {w : World} {B s x : Nat} {NM : List BA} {L : List Nat} {I : Nat → Itm} {Q : List Nat} {V : BA → Int} (H : In w B s x NM L I Q V) : ∀ q ∈ L, ∀ r ∈ L, (I q).k = (I r).k → q = r := by
 obtain ⟨S, P, D, D2, hX⟩ := H
 exact fun q hq r hr e => hX.inj hq hr e
theorem In.nod {w : World} {B s x : Nat} {NM : List BA} {L : List Nat} {I : Nat → Itm} {Q : List Nat} {V : BA → Int} (H : In w B s x NM L I Q V) : L.Nodup := by
 obtain ⟨S, P, D, D2, hX⟩ := H
 exact hX.qs.nod
theorem still_of {U : Nat → Int} {L : List Nat} {I : Nat → Itm} {Q : List Nat} {A : Ab} {t : Int} (hR : Rep L I Q A) (hU : U = un I) (ho : Ord U Q) (hd : ¬ (0 < Q.length ∧ (I (at' Q 0)).u ≤ t)) : Still A t := by
 intro k v e he
 obtain ⟨p, hp, rfl⟩ := hR.no k _ he
 rw [hR.yes p hp] at he
 injection he with he
 injection he with h1 h2
 by_cases hq : p ∈ Q
 ·rw [if_pos hq] at h2
  injection h2 with h2
  obtain ⟨i, hi, e⟩ := at_ex hq
  have h3 := ho.least i hi
  rw [hU, e] at h3
  have h4 : ¬ (I (at' Q 0)).u ≤ t := fun h => hd ⟨by omega, h⟩
  have h5 : (I (at' Q 0)).u ≤ (I p).u := h3
  omega
 ·rw [if_neg hq] at h2; cases h2
def Low (V : BA → Int) : Prop := ∀ k, 0 ≤ V k ∧ V k < 4611686018427387900
def Bo (w w' : World) (B s x : Nat) (NM : List BA) (A : Ab) (V : BA → Int) (t : Int) : Prop := To w w' B s x NM (dueA A t) (dueV A V t)
theorem Cj (w : World) (B s x : Nat) (NM : List BA) (A : Ab) (V : BA → Int) (hS : Spc w B s x NM A V) (hv : Low V) (t : Int) :
  Calls Tryz.prog 37 #[ptr s, .int .i64 t] w fun e w' => e = .returned (.tuple #[]) ∧ Bo w w' B s x NM A V t := by
 obtain ⟨L, I, Q, hI, hR⟩ := hS
 have HI0 : Hid (In w B s x NM L I Q V) := hI
 have HR0 : Hid (Rep L I Q A) := hR
 clear hI hR
 go_enter Tryz.func37, Tryz.ntmps37
 go_wp2
 go_loopg [] (L.length + 1) (fun gk wr => ∃ L' Q' V' A', L'.length + 1 ≤ gk ∧ Hid (In wr B s x NM L' I Q' V') ∧ Hid (Rep L' I Q' A') ∧ Hid (Due A A' V V' t) ∧ Hid (Mb stag B w wr))
 case atStart => exact ⟨L, Q, V, A, Nat.le_refl _, HI0, HR0, fun k => .inl ⟨rfl, rfl⟩, Mb.refl _ _ _⟩
 case round =>
  obtain ⟨L', Q', V', A', hg, HI, HR, HU, HM⟩ := hrel
  obtain ⟨S, P, D, D2, hX⟩ := HI.out
  have HX : Hid (Sx wr B s x NM L' I Q' V' S P D D2) := hX
  have HDu := isDue_any wr B s S L' I P Q' hX.qs t
  clear hX
  go_wp2_with fail
  refine HDu.mono ?_
  rintro e wr ⟨rfl, r, rfl, hr⟩
  cases r with
  | true =>
   obtain ⟨h0, hu⟩ := hr.1 rfl
   obtain ⟨g, c, hH⟩ := HX.out.qs.hs h0 Q'.length
   have HF := first_any wr B s S g c L' I P Q' Q'.length hH h0 (by omega)
   have hpQ : at' Q' 0 ∈ Q' := at_mem h0
   obtain ⟨p, hpe⟩ : ∃ p, at' Q' 0 = p := ⟨_, rfl⟩
   rw [hpe] at HF hu hpQ
   have hpL := HX.out.qs.sub p hpQ
   have HT := take_any wr B s x NM L' I Q' V' HI.out p hpL (fun k => by have := HU.out.le k; have := hv k; omega)
   have HUU : Hid ((I p).u ≤ t) := hu
   clear hH hr hu HDu
   go_wp2_with fail
   refine HF.mono ?_
   rintro e wr ⟨rfl, rfl⟩
   go_wp2_with fail
   refine HT.mono ?_
   rintro e w2 ⟨rfl, hm2, Q2, hin2, hmem⟩
   have HIn : Hid (In w2 B s x NM (L'.erase p) I Q2 (incV V' (I p).k)) := hin2
   have HR2 : Hid (Rep (L'.erase p) I Q2 (setA A' (I p).k none)) := HR.out.del HI.out.inj HI.out.nod hpL hmem
   have HU2 : Hid (Due A (setA A' (I p).k none) V (incV V' (I p).k) t) := HU.out.step (by rw [HR.out.yes p hpL, if_pos hpQ]) HUU.out
   have HM2 : Hid (Mb stag B w w2) := HM.out.trans hm2
   have hln : (L'.erase p).length + 1 = L'.length := by
    have := List.length_erase_of_mem hpL
    have := List.length_pos_of_mem hpL
    omega
   clear hm2 hin2 hmem HT HF
   go_wp2
   go_roundg (gk - 1)
   case measure => omega
   case rel => exact ⟨_, Q2, _, _, by omega, HIn, HR2, HU2, HM2⟩
  | false =>
   have hd : ¬ (0 < Q'.length ∧ (I (at' Q' 0)).u ≤ t) := fun h => by have := hr.2 h; cases this
   have HE : Hid (Bo w wr B s x NM A V t) := by
    have hst := still_of HR.out rfl HX.out.qs.ord hd
    obtain ⟨e1, e2⟩ := HU.out.done hst
    refine ⟨HM.out, L', I, Q', ?_, ?_⟩
    ·rw [← e2]; exact HI.out
    ·rw [← e1]; exact HR.out
   clear hd hr HDu
   go_wp2
   go_end0
   exact ⟨rfl, HE.out⟩
def FindTo (w w' : World) (B s x : Nat) (NM : List BA) (A : Ab) (V : BA → Int) (k : BA) (t : Int) (e : Ending) : Prop :=
 Mb stag B w w' ∧ ∃ L I Q, In w' B s x NM L I Q (dueV A V t) ∧ Rep L I Q (dueA A t) ∧ (e = .returned (.pointer none) ∧ dueA A t k = none ∨ ∃ p ∈ L, (I p).k = k ∧ e = .returned (ptr p) ∧ dueA A t k = some ((I p).v, if p ∈ Q then some (I p).u else none))
theorem A2 (w : World) (B s x : Nat) (NM : List BA) (A : Ab) (V : BA → Int) (hS : Spc w B s x NM A V) (hv : Low V) (t : Int) (k : BA) (hk : k.size ≤ maxLen) :
  Calls Tryz.prog 43 #[ptr s, .string k, .int .i64 t] w fun e w' => FindTo w w' B s x NM A V k t e := by
 have HD := Cj w B s x NM A V hS hv t
 go_enter Tryz.func43, Tryz.ntmps43
 go_wp2_with fail
 refine HD.mono ?_
 rintro e w1 ⟨rfl, hm1, L, I, Q, ⟨S, P, D, D2, hX⟩, hR⟩
 have HX : Hid (Sx w1 B s x NM L I Q (dueV A V t) S P D D2) := hX
 have HR : Hid (Rep L I Q (dueA A t)) := hR
 have HM : Hid (Mb stag B w w1) := hm1
 have c3 := hX.cd
 have HG := Dk.GetD B S.d x D k w1 hX.kd hk
 clear hX hR hm1 HD
 obtain ⟨r, HRr⟩ : ∃ r : Option Addr, Hid (Dk.getE D.es k = r) := ⟨_, rfl⟩
 rw [HRr.out] at HG
 obtain ⟨q, HQq⟩ : ∃ q : Bool, Hid (Dk.hasK D.es k = q) := ⟨_, rfl⟩
 rw [HQq.out] at HG
 go_wp2_with fail
 refine HG.mono ?_
 rintro e w2 ⟨rfl, hb⟩
 have HE : Hid (FindTo w w2 B s x NM A V k t (.returned (.pointer r))) := by
  refine ⟨HM.out.trans (Mb.of_below hb (by have := HX.out.lt; omega)), L, I, Q, ⟨S, P, D, D2, HX.out.keep hb⟩, HR.out, ?_⟩
  by_cases h : ∃ p ∈ L, (I p).k = k
  ·obtain ⟨p, hp, rfl⟩ := h
   have h1 := (HX.out.found hp).1
   rw [HRr.out] at h1
   exact .inr ⟨p, hp, rfl, by rw [h1], HR.out.yes p hp⟩
  ·have h1 := (HX.out.lacks (k := k) (fun p hp e => h ⟨p, hp, e⟩)).1
   rw [HRr.out] at h1
   refine .inl ⟨by rw [h1], ?_⟩
   cases hA : dueA A t k with
   | none => rfl
   | some y => exact absurd (HR.out.no k y hA) h
 clear hb HG c3
 go_wp2
 go_ret
 exact HE.out
theorem setA_twice {α : Type} (A : AbV α) (k : BA) (y z : Option (α × Option Int)) : setA (setA A k y) k z = setA A k z := by
 funext j
 unfold setA
 by_cases h : j = k
 ·rw [if_pos h, if_pos h]
 ·rw [if_neg h, if_neg h, if_neg h]
theorem setA_self {α : Type} {A : AbV α} {k : BA} {y : Option (α × Option Int)} (h : A k = y) : setA A k y = A := by
 funext j
 unfold setA
 by_cases e : j = k
 ·rw [if_pos e, e, h]
 ·rw [if_neg e]
theorem Bz {α : Type} (A : AbV α) (k : BA) (y : Option (α × Option Int)) : setA A k y k = y := if_pos rfl
theorem Cd {α : Type} (A : AbV α) {k j : BA} (y : Option (α × Option Int)) (h : j ≠ k) : setA A k y j = A j := if_neg h
theorem Rep.turn {L : List Nat} {I J : Nat → Itm} {Q Q' : List Nat} {A : Ab} (h : Rep L I Q A) (hinj : ∀ q ∈ L, ∀ r ∈ L, (I q).k = (I r).k → q = r) {p : Nat} (hp : p ∈ L) (hk : (J p).k = (I p).k) (hJ : ∀ q, q ≠ p → J q = I q) (hm : ∀ q, q ≠ p → (q ∈ Q' ↔ q ∈ Q)) : Rep L J Q' (setA A (I p).k (some ((J p).v, if p ∈ Q' then some (J p).u else none))) := by
 constructor
 ·intro q hq
  by_cases e : q = p
  ·rw [e, hk, Bz]
  ·rw [hJ q e, Cd _ _ (fun e2 => e (hinj q hq p hp e2)), h.yes q hq]
   by_cases hQ : q ∈ Q
   ·rw [if_pos hQ, if_pos ((hm q e).2 hQ)]
   ·rw [if_neg hQ, if_neg (fun e2 => hQ ((hm q e).1 e2))]
 ·intro k y hy
  by_cases e : k = (I p).k
  ·exact ⟨p, hp, by rw [hk, e]⟩
  ·rw [Cd _ _ e] at hy
   obtain ⟨q, hq, rfl⟩ := h.no k y hy
   exact ⟨q, hq, by rw [hJ q (fun e2 => e (by rw [e2]))]⟩
theorem Rep.new {L : List Nat} {I : Nat → Itm} {Q : List Nat} {A : Ab} (h : Rep L I Q A) {p : Nat} {i : Itm} (hp : p ∉ L) (hq : p ∉ Q) (hn : ∀ q ∈ L, (I q).k ≠ i.k) : Rep (p :: L) (upd I p i) Q (setA A i.k (some (i.v, none))) := by
 constructor
 ·intro q hq'
  rcases List.mem_cons.1 hq' with rfl | h1
  ·rw [Br, Bz, if_neg hq]
  ·have e : q ≠ p := fun e => hp (by rw [← e]; exact h1)
   rw [Bl _ _ e, Cd _ _ (hn q h1)]
   exact h.yes q h1
 ·intro k y hy
  by_cases e : k = i.k
  ·exact ⟨p, List.mem_cons_self .., by rw [Br, e]⟩
  ·rw [Cd _ _ e] at hy
   obtain ⟨q, hq', rfl⟩ := h.no k y hy
   exact ⟨q, List.mem_cons_of_mem _ hq', by rw [Bl _ _ (fun e => hp (by rw [← e]; exact hq'))]⟩
def HoldTo (w w' : World) (B s x : Nat) (NM : List BA) (A : Ab) (V : BA → Int) (k : BA) (v : Option Addr) (e : Ending) : Prop :=
 Mb stag B w w' ∧ ∃ L I Q, In w' B s x NM L I Q (incV V k) ∧ Rep L I Q (setA A k (some (v, none))) ∧ ∃ p, e = .returned (ptr p) ∧ p ∈ L ∧ p ∉ Q ∧ (I p).k = k ∧ (I p).v = v
def HoldIn (w w' : World) (B s x : Nat) (NM : List BA) (A : Ab) (V : BA → Int) (k : BA) (v : Option Addr) (L0 : List Nat) (I0 : Nat → Itm) (e : Ending) : Prop :=
 Mb stag B w w' ∧ ∃ L I Q, In w' B s x NM L I Q (incV V k) ∧ Rep L I Q (setA A k (some (v, none))) ∧ (∀ q ∈ L0, (I0 q).k ≠ k → q ∈ L ∧ I q = I0 q) ∧ ∃ p, e = .returned (ptr p) ∧ p ∈ L ∧ p ∉ Q ∧ (I p).k = k ∧ (I p).v = v
structure Ere (w w' : World) (B s x : Nat) (NM : List BA) (A : Ab) (V : BA → Int) (k : BA) (L0 : List Nat) (I0 : Nat → Itm) (p : Nat) (L : List Nat) (I : Nat → Itm) (Q : List Nat) (A1 : Ab) : Prop where
 mb : Mb stag B w w'
 inn : In w' B s x NM L I Q V
 rep : Rep L I Q A1
 mem : p ∈ L
 key : (I p).k = k
 set : ∀ y, setA A1 k y = setA A k y
 old : ∀ q ∈ L0, q ∈ L ∧ I q = I0 q
theorem hold_in (w : World) (B s x : Nat) (NM : List BA) (L : List Nat) (I : Nat → Itm) (Q : List Nat) (A : Ab) (V : BA → Int) (hI : In w B s x NM L I Q V) (hR : Rep L I Q A) (k : BA) (hk : k ∈ NM) (hv : 0 ≤ V k ∧ V k < 4611686018427387904) (v : Option Addr) :
  Calls Tryz.prog 38 #[ptr s, .string k, .pointer v] w fun e w' => HoldIn w w' B s x NM A V k v L I e := by
 obtain ⟨S, P, D, D2, hX⟩ := hI
 have HX : Hid (Sx w B s x NM L I Q V S P D D2) := hX
 have HR : Hid (Rep L I Q A) := hR
 have c3 := hX.cd
 have HG := Dk.GetD B S.d x D k w hX.kd (hX.mx hk)
 clear hX hR
 obtain ⟨r, HRr⟩ : ∃ r : Option Addr, Hid (Dk.getE D.es k = r) := ⟨_, rfl⟩
 rw [HRr.out] at HG
 obtain ⟨q, HQq⟩ : ∃ q : Bool, Hid (Dk.hasK D.es k = q) := ⟨_, rfl⟩
 rw [HQq.out] at HG
 go_enter Tryz.func38, Tryz.ntmps38
 go_wp2_with fail
 refine HG.mono ?_
 rintro e w1 ⟨rfl, hb⟩
 have HX1 : Hid (Sx w1 B s x NM L I Q V S P D D2) := HX.out.keep hb
 have HM1 : Hid (Mb stag B w w1) := Mb.of_below hb (by have := HX.out.lt; omega)
 clear hb HG c3
 go_upto_if 19 with fail
 go_cut [7] from 20 to 28 (fun y wx => ∃ p, y = ptr p ∧ ∃ L1 I1 A1, Hid (Ere w wx B s x NM A V k L I p L1 I1 Q A1))
 case first =>
  cases q with
  | true =>
   have hex : ∃ p ∈ L, (I p).k = k := by
    refine Classical.byContradiction fun h => ?_
    have h1 := (HX.out.lacks (k := k) (fun p hp e => h ⟨p, hp, e⟩)).2
    rw [HQq.out] at h1
    cases h1
   obtain ⟨p, hp, hpk⟩ := hex
   have hr : r = adr p := by
    have h1 := (HX.out.found hp).1
    rw [hpk, HRr.out] at h1
    exact h1
   subst hr
   have HE : Hid (Ere w w1 B s x NM A V k L I p L I Q A) := ⟨HM1.out, ⟨S, P, D, D2, HX1.out⟩, HR.out, hp, hpk, fun _ => rfl, fun q hq => ⟨hq, rfl⟩⟩
   go_wp2
   go_meet
   exact ⟨p, rfl, L, I, A, HE⟩
  | false =>
   have hno : ∀ p ∈ L, (I p).k ≠ k := fun p hp e => by
    have h1 := (HX.out.found hp).2
    rw [e, HQq.out] at h1
    cases h1
   have HN := newItem_any w1 k
   go_wp2_with fail
   refine HN.mono ?_
   rintro e w2 ⟨rfl, hw2⟩
   have hb2 : Below w1.heap.size w1 w2 := by rw [hw2]; exact Ac w1 _
   obtain ⟨hq2, hpL⟩ := HX1.out.qs.more ⟨k, none, 0⟩ (by have := HX1.out.few; omega) hw2
   obtain ⟨p, hpe⟩ : ∃ p, w1.heap.size = p := ⟨_, rfl⟩
   rw [hpe] at hq2 hpL
   have HQ2 : Hid (Qs w2 B s S (p :: L) (upd I p ⟨k, none, 0⟩) (upd P p (-1)) Q) := hq2
   have HB2 : Hid (Below w1.heap.size w1 w2) := hb2
   have HPL : Hid (p ∉ L) := hpL
   have HP := Dk.PutD B S.d x D k (adr p) w2 (HX1.out.kd.keep hb2) (HX1.out.mx hk) (by have := HX1.out.len; have := HX1.out.few; omega)
   have c3 := (HX1.out.keep hb2).cd
   have HNo : Hid (∀ p ∈ L, (I p).k ≠ k) := hno
   rw [hpe]
   clear hw2 hb2 hq2 hpL HN hno hpe
   go_wp2_with fail
   refine HP.mono ?_
   rintro e w3 ⟨rfl, D', hT, hd⟩
   have HE : Hid (Ere w w3 B s x NM A V k L I p (p :: L) (upd I p ⟨k, none, 0⟩) Q (setA A k (some (none, none)))) := by
    obtain ⟨k1, k2⟩ := HX1.out.put HB2.out HQ2.out HPL.out hT (i := ⟨k, none, 0⟩) hk HNo.out hd
    exact ⟨HM1.out.trans k2, ⟨S, _, D', D2, k1⟩, HR.out.new (i := ⟨k, none, 0⟩) HPL.out (fun h => HPL.out (HX.out.qs.sub _ h)) HNo.out, List.mem_cons_self .., by rw [Br], fun y => setA_twice _ _ _ _, fun q hq => ⟨List.mem_cons_of_mem _ hq, Bl _ _ (fun e => HPL.out (by rw [← e]; exact hq))⟩⟩
   clear hT hd HP c3
   go_wp2
   go_meet
   exact ⟨p, rfl, _, _, _, HE⟩
 case rest =>
  obtain ⟨p, rfl, L1, I1, A1, HE⟩ := hcut
  clear HX HX1 HR HM1
  obtain ⟨S1, P1, D1, D3, hX⟩ := HE.out.inn
  have HX : Hid (Sx wc B s x NM L1 I1 Q V S1 P1 D1 D3) := hX
  have HD := drop_any wc B s S1 L1 I1 P1 Q hX.qs p HE.out.mem
  clear hX
  go_wp2_with fail
  refine HD.mono ?_
  rintro e w2 ⟨rfl, hm2, P2, Q2, hq2, hmem⟩
  have HX2 : Hid (Sx w2 B s x NM L1 I1 Q2 V S1 P2 D1 D3) := HX.out.queue hm2 hq2 (fun _ _ => rfl)
  have HM2 : Hid (Mb stag B w w2) := HE.out.mb.trans (Mb.mono hm2 stag_q)
  have HMem : Hid (∀ q, q ∈ Q2 ↔ q ≠ p ∧ q ∈ Q) := hmem
  have e1 := hq2.its.cv HE.out.mem
  have e2 := hq2.its.fz HE.out.mem 1
  obtain ⟨w3, hw3⟩ : ∃ w3, w2.setCell ⟨p, 1, none⟩ (.pointer v) = w3 := ⟨_, rfl⟩
  obtain ⟨hq3, hm3⟩ := hq2.value HE.out.mem v hw3.symm
  have HI3 : Hid (In w3 B s x NM L1 (upd I1 p { I1 p with v := v }) Q2 V) := ⟨S1, P2, D1, D3, HX2.out.queue hm3 hq3 (fun q _ => by
   by_cases h : q = p
   ·rw [h, Br]
   ·rw [Bl _ _ h])⟩
  have HM3 : Hid (Mb stag B w w3) := HM2.out.trans (Mb.mono hm3 stag_q)
  have HC := change_any w3 B s x NM L1 _ Q2 V HI3.out k hk hv
  clear hm2 hq2 hmem hq3 hm3 HD
  go_wp2_with fail
  refine HC.mono ?_
  rintro e w4 ⟨rfl, hm4, hi4⟩
  have HF : Hid (HoldIn w w4 B s x NM A V k v L I (.returned (ptr p))) := by
   have hpq : p ∉ Q2 := fun h => ((HMem.out p).1 h).1 rfl
   have hr := HE.out.rep.turn (J := upd I1 p { I1 p with v := v }) (Q' := Q2) HE.out.inn.inj HE.out.mem (by rw [Br]) (fun q h => Bl _ _ h) (fun q h => ⟨fun h1 => ((HMem.out q).1 h1).2, fun h1 => (HMem.out q).2 ⟨h, h1⟩⟩)
   rw [if_neg hpq, Br, HE.out.key, HE.out.set] at hr
   exact ⟨HM3.out.trans hm4, L1, _, Q2, hi4, hr, fun q hq hqk => ⟨(HE.out.old q hq).1, by rw [Bl _ _ (fun e => hqk (by rw [← (HE.out.old q hq).2, e]; exact HE.out.key))]; exact (HE.out.old q hq).2⟩, p, rfl, HE.out.mem, hpq, by rw [Br]; exact HE.out.key, by rw [Br]⟩
  clear hm4 hi4 HC
  go_wp2
  go_ret
  exact HF.out
theorem hold_any (w : World) (B s x : Nat) (NM : List BA) (A : Ab) (V : BA → Int) (hS : Spc w B s x NM A V) (k : BA) (hk : k ∈ NM) (hv : 0 ≤ V k ∧ V k < 4611686018427387904) (v : Option Addr) :
  Calls Tryz.prog 38 #[ptr s, .string k, .pointer v] w fun e w' => HoldTo w w' B s x NM A V k v e := by
 obtain ⟨L, I, Q, hI, hR⟩ := hS
 refine (hold_in w B s x NM L I Q A V hI hR k hk hv v).mono ?_
 rintro e w' ⟨h1, L', I', Q', h2, h3, -, h4⟩
 exact ⟨h1, L', I', Q', h2, h3, h4⟩
def UntilIn (w w' : World) (B s x : Nat) (NM : List BA) (A : Ab) (V : BA → Int) (k : BA) (y : Option Addr × Option Int) (L0 : List Nat) (I0 : Nat → Itm) : Prop := Mb stag B w w' ∧ ∃ L I Q, In w' B s x NM L I Q (incV V k) ∧ Rep L I Q (setA A k (some y)) ∧ ∀ q ∈ L0, (I0 q).k ≠ k → q ∈ L ∧ I q = I0 q
def UntilTo (w w' : World) (B s x : Nat) (NM : List BA) (A : Ab) (V : BA → Int) (k : BA) (y : Option Addr × Option Int) : Prop := To w w' B s x NM (setA A k (some y)) (incV V k)
theorem holdUntil_in (w : World) (B s x : Nat) (NM : List BA) (L0 : List Nat) (I0 : Nat → Itm) (Q0 : List Nat) (A : Ab) (V : BA → Int) (hI0 : In w B s x NM L0 I0 Q0 V) (hR0 : Rep L0 I0 Q0 A) (k : BA) (hk : k ∈ NM) (hv : 0 ≤ V k ∧ V k < 4611686018427387904) (v : Option Addr) (u : Int) (r : Bool) :
  Calls Tryz.prog 44 #[ptr s, .string k, .pointer v, .int .i64 u, .bool r] w fun e w' => e = .returned (.tuple #[]) ∧ UntilIn w w' B s x NM A V k (v, if r then some u else none) L0 I0 := by
 have HH := hold_in w B s x NM L0 I0 Q0 A V hI0 hR0 k hk hv v
 cases r with
 | false =>
  go_enter Tryz.func44, Tryz.ntmps44
  go_wp2_with fail
  refine HH.mono ?_
  rintro e w1 ⟨hm, L, I, Q, hi, hr, hol, p, rfl, -⟩
  have HE : Hid (UntilIn w w1 B s x NM A V k (v, none) L0 I0) := ⟨hm, L, I, Q, hi, hr, hol⟩
  clear hm hi hr HH hol
  go_wp2
  go_end0
  exact ⟨rfl, HE.out⟩
 | true =>
  go_enter Tryz.func44, Tryz.ntmps44
  go_wp2_with fail
  refine HH.mono ?_
  rintro e w1 ⟨hm, L, I, Q, hi, hr, hol, p, rfl, hp, hq, hpk, hpv⟩
  obtain ⟨S, P, D, D2, hX⟩ := hi
  have HX : Hid (Sx w1 B s x NM L I Q (incV V k) S P D D2) := hX
  have HR : Hid (Rep L I Q (setA A k (some (v, none)))) := hr
  have HM : Hid (Mb stag B w w1) := hm
  have HA := add_any w1 B s S L I P Q hX.qs p hp hq u
  have HI : Hid ((I p).k = k ∧ (I p).v = v) := ⟨hpk, hpv⟩
  have HOl : Hid (∀ q ∈ L0, (I0 q).k ≠ k → q ∈ L ∧ I q = I0 q) := hol
  clear hX hr hm HH hpk hpv hol
  go_wp2_with fail
  refine HA.mono ?_
  rintro e w2 ⟨rfl, hm2, P', Q', hq2, hmem⟩
  have HE : Hid (UntilIn w w2 B s x NM A V k (v, some u) L0 I0) := by
   have hX2 := HX.out.queue hm2 hq2 (fun q _ => by
    by_cases h : q = p
    ·rw [h, Br]
    ·rw [Bl _ _ h])
   have hr := HR.out.turn (J := upd I p { I p with u := u }) (Q' := Q') (fun q hq r hr e => HX.out.inj hq hr e) hp (by rw [Br]) (fun q h => Bl _ _ h) (fun q h => ⟨fun h1 => ((hmem q).1 h1).resolve_left h, fun h1 => (hmem q).2 (.inr h1)⟩)
   rw [if_pos ((hmem p).2 (.inl rfl)), Br, HI.out.1, setA_twice] at hr
   rw [← HI.out.2]
   exact ⟨HM.out.trans (Mb.mono hm2 stag_q), L, _, Q', ⟨S, P', D, D2, hX2⟩, hr, fun q hq hqk => ⟨(HOl.out q hq hqk).1, by rw [Bl _ _ (fun e => hqk (by rw [← (HOl.out q hq hqk).2, e]; exact HI.out.1))]; exact (HOl.out q hq hqk).2⟩⟩
  clear hm2 hq2 hmem HA
  go_wp2
  go_end0
  exact ⟨rfl, HE.out⟩
theorem holdUntil_any (w : World) (B s x : Nat) (NM : List BA) (A : Ab) (V : BA → Int) (hS : Spc w B s x NM A V) (k : BA) (hk : k ∈ NM) (hv : 0 ≤ V k ∧ V k < 4611686018427387904) (v : Option Addr) (u : Int) (r : Bool) :
  Calls Tryz.prog 44 #[ptr s, .string k, .pointer v, .int .i64 u, .bool r] w fun e w' => e = .returned (.tuple #[]) ∧ UntilTo w w' B s x NM A V k (v, if r then some u else none) := by
 obtain ⟨L, I, Q, hI, hR⟩ := hS
 refine (holdUntil_in w B s x NM L I Q A V hI hR k hk hv v u r).mono ?_
 rintro e w' ⟨rfl, h1, L', I', Q', h2, h3, -⟩
 exact ⟨rfl, h1, L', I', Q', h2, h3⟩
end Go.Proofs.YtmjeljldmmkcpaaGreat.Sq
