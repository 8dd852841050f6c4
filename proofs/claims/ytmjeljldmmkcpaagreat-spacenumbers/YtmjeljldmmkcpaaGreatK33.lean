/- Texts that the others stand on. -/
import Derived.Test.YtmjeljldmmkcpaaGreatK32
namespace Go.Proofs.YtmjeljldmmkcpaaGreat.Sq
open Go.RowKit Go.PlainAid
open Dk (ptr Aa Ac Ad Af OwnR OwnP OwnS Mv Am Elt A4)
structure Dom (A : Ab) (ks : List BA) : Prop where
 nod : ks.Nodup
 iff : ∀ k, k ∈ ks ↔ (A k).isSome = true
theorem Dom.perm {A : Ab} {ks js : List BA} (h : Dom A ks) (hp : ks.Perm js) : Dom A js := ⟨hp.nodup_iff.1 h.nod, fun k => by rw [← hp.mem_iff]; exact h.iff k⟩
theorem nodup_perm {ks js : List BA} (h : ks.Nodup) (h' : js.Nodup) (hm : ∀ k, k ∈ ks ↔ k ∈ js) : ks.Perm js := (List.perm_ext_iff_of_nodup h h').2 hm
theorem Dom.same {A : Ab} {ks js : List BA} (h : Dom A ks) (h' : Dom A js) : ks.Perm js := nodup_perm h.nod h'.nod fun k => by rw [h.iff, h'.iff]
theorem Sx.dom {w : World} {B s x : Nat} {NM : List BA} {L : List Nat} {I : Nat → Itm} {Q : List Nat} {V : BA → Int} {S : Sd} {P : Nat → Int} {D : Dk.Dg} {D2 : Zs.Dk.Dg} (H : Sx w B s x NM L I Q V S P D D2) {A : Ab} (hR : Rep L I Q A) : Dom A (L.map fun p => (I p).k) := by
 refine ⟨H.nodk, fun k => ⟨fun h => ?_, fun h => ?_⟩⟩
 ·obtain ⟨p, hp, rfl⟩ := List.mem_map.1 h
  rw [hR.yes p hp]; rfl
 ·obtain ⟨y, hy⟩ := Option.isSome_iff_exists.1 h
  obtain ⟨p, hp, e⟩ := hR.no k y hy
  exact List.mem_map.2 ⟨p, hp, e⟩
theorem Sx.domK {w : World} {B s x : Nat} {NM : List BA} {L : List Nat} {I : Nat → Itm} {Q : List Nat} {V : BA → Int} {S : Sd} {P : Nat → Int} {D : Dk.Dg} {D2 : Zs.Dk.Dg} (H : Sx w B s x NM L I Q V S P D D2) {A : Ab} (hR : Rep L I Q A) : Dom A (Dk.Ae D.es) := by
 have h1 := H.kp.map (·.1)
 have h2 := H.dom hR
 have e : (kents L I).map (·.1) = L.map fun p => (I p).k := keys_kents L I
 rw [e] at h1
 exact h2.perm h1.symm
def LenR (e : Ending) (A : Ab) : Prop := ∃ ks, Dom A ks ∧ e = .returned (.int .i64 (ks.length : Nat))
theorem Held_any (w : World) (B s x : Nat) (NM : List BA) (A : Ab) (V : BA → Int) (hS : Spc w B s x NM A V) :
  Calls Tryz.prog 64 #[ptr s] w fun e w' => w' = w ∧ LenR e A := by
 obtain ⟨L, I, Q, ⟨S, P, D, D2, hX⟩, hR⟩ := hS
 have HD : Hid (Dom A (Dk.Ae D.es)) := hX.domK hR
 have HL := Dk.Len_dict B S.d x D w hX.kd
 have c3 := hX.cd
 have hl : D.es.length = (Dk.Ae D.es).length := (List.length_map ..).symm
 rw [hl] at HL
 generalize Dk.Ae D.es = ks at HL HD
 clear hX hR hl
 go_enter Tryz.func64, Tryz.ntmps64
 go_wp2_with fail
 refine HL.mono ?_
 rintro e w ⟨rfl, rfl⟩
 have HE : Hid (LenR (.returned (.int .i64 (ks.length : Nat))) A) := ⟨ks, HD.out, rfl⟩
 generalize ks.length = n at HE ⊢
 go_wp2
 go_ret
 exact ⟨rfl, HE.out⟩
theorem Len_any (w : World) (B s x : Nat) (NM : List BA) (A : Ab) (V : BA → Int) (hS : Spc w B s x NM A V) (hv : Low V) (t : Int) :
  Calls Tryz.prog 15 #[ptr s, .int .i64 t] w fun e w' => Bo w w' B s x NM A V t ∧ LenR e (dueA A t) := by
 have HT := Cj w B s x NM A V hS hv t
 go_enter Tryz.func15, Tryz.ntmps15
 go_wp2_with fail
 refine HT.mono ?_
 rintro e w1 ⟨rfl, hm, L, I, Q, ⟨S, P, D, D2, hX⟩, hR⟩
 have HE : Hid (Bo w w1 B s x NM A V t) := ⟨hm, L, I, Q, ⟨S, P, D, D2, hX⟩, hR⟩
 have HD : Hid (Dom (dueA A t) (Dk.Ae D.es)) := hX.domK hR
 have HL := Dk.Len_dict B S.d x D w1 hX.kd
 have c3 := hX.cd
 have hl : D.es.length = (Dk.Ae D.es).length := (List.length_map ..).symm
 rw [hl] at HL
 generalize Dk.Ae D.es = ks at HL HD
 clear hX hR hl hm HT
 go_wp2_with fail
 refine HL.mono ?_
 rintro e w1 ⟨rfl, rfl⟩
 have HF : Hid (LenR (.returned (.int .i64 (ks.length : Nat))) (dueA A t)) := ⟨ks, HD.out, rfl⟩
 generalize ks.length = n at HF ⊢
 go_wp2
 go_ret
 exact ⟨HE.out, HF.out⟩
def KeysR (w w' : World) (e : Ending) (A : Ab) : Prop := ∃ a n c ks, e = .returned (.slice a n c) ∧ OwnS w' w.heap.size a n c ks ∧ Dom A ks
theorem Keys_any (w : World) (B s x : Nat) (NM : List BA) (A : Ab) (V : BA → Int) (hS : Spc w B s x NM A V) (hv : Low V) (t : Int) :
  Calls Tryz.prog 25 #[ptr s, .int .i64 t] w fun e w' => Bo w w' B s x NM A V t ∧ KeysR w w' e (dueA A t) := by
 have HT := Cj w B s x NM A V hS hv t
 go_enter Tryz.func25, Tryz.ntmps25
 go_wp2_with fail
 refine HT.mono ?_
 rintro e w1 ⟨rfl, hm, L, I, Q, ⟨S, P, D, D2, hX⟩, hR⟩
 have HM : Hid (Mb stag B w w1) := hm
 have HX : Hid (Sx w1 B s x NM L I Q (dueV A V t) S P D D2) := hX
 have HR : Hid (Rep L I Q (dueA A t)) := hR
 have HK := Dk.Keys_dict B S.d x D w1 hX.kd
 have c3 := hX.cd
 clear hX hR hm HT
 go_wp2_with fail
 refine HK.mono ?_
 rintro e w2 ⟨hb, a, n, c, rfl, hO⟩
 have HE : Hid (Bo w w2 B s x NM A V t ∧ KeysR w w2 (.returned (.slice a n c)) (dueA A t)) := by
  refine ⟨⟨HM.out.trans (Mb.of_below hb (by have := HX.out.lt; omega)), L, I, Q, ⟨S, P, D, D2, HX.out.keep hb⟩, HR.out⟩, a, n, c, _, rfl, Dk.OwnR.low hO HM.out.mv.size, ?_⟩
  refine (HX.out.domK HR.out).perm ?_
  exact ((HX.out.kd.ord_perm.flatMap_right Dk.Lf.es).map (·.1)).symm
 clear hb hO HK
 go_wp2
 go_ret
 exact HE.out
theorem Version_any (w : World) (B s x : Nat) (NM : List BA) (A : Ab) (V : BA → Int) (hS : Spc w B s x NM A V) (hv : Low V) (t : Int) (k : BA) (hk : k.size ≤ maxLen) :
  Calls Tryz.prog 13 #[ptr s, .string k, .int .i64 t] w fun e w' => e = .returned (.int .u64 (dueV A V t k)) ∧ Bo w w' B s x NM A V t := by
 have HT := Cj w B s x NM A V hS hv t
 go_enter Tryz.func13, Tryz.ntmps13
 go_wp2_with fail
 refine HT.mono ?_
 rintro e w1 ⟨rfl, hm, L, I, Q, ⟨S, P, D, D2, hX⟩, hR⟩
 have HM : Hid (Mb stag B w w1) := hm
 have HX : Hid (Sx w1 B s x NM L I Q (dueV A V t) S P D D2) := hX
 have HR : Hid (Rep L I Q (dueA A t)) := hR
 have HG := Zs.Dk.GetD B S.v x D2 k w1 hX.vd hk
 rw [hX.vp k] at HG
 obtain ⟨n, HN⟩ : ∃ n, Hid (dueV A V t k = n) := ⟨_, rfl⟩
 rw [HN.out] at HG
 have c5 := hX.cv
 clear hX hR hm HT
 go_wp2_with fail
 refine HG.mono ?_
 rintro e w2 ⟨rfl, hb⟩
 have HE : Hid (Bo w w2 B s x NM A V t) := ⟨HM.out.trans (Mb.of_below hb (by have := HX.out.lt; omega)), L, I, Q, ⟨S, P, D, D2, HX.out.keep hb⟩, HR.out⟩
 clear hb HG
 go_wp2
 go_ret
 exact ⟨by rw [HN.out]; rfl, HE.out⟩
def CycTo (w w' : World) (B s x : Nat) (NM : List BA) (A : Ab) (V : BA → Int) (n t : Int) (e : Ending) : Prop :=
 ∃ A' V' ks ks', ∃ c : Nat, e = .returned (.int .i64 c) ∧ To w w' B s x NM A' V' ∧ Due A A' V V' t ∧ Dom A ks ∧ Dom A' ks' ∧ ks'.length + c = ks.length ∧ ((c : Int) < n → Still A' t) ∧ (c = 0 ∨ (c : Int) ≤ n)
set_option maxRecDepth 100000 in
theorem Cycle_any (w : World) (B s x : Nat) (NM : List BA) (A : Ab) (V : BA → Int) (hS : Spc w B s x NM A V) (hv : Low V) (n t : Int) :
  Calls Tryz.prog 22 #[ptr s, .int .i64 n, .int .i64 t] w fun e w' => CycTo w w' B s x NM A V n t e := by
 obtain ⟨L, I, Q, hI, hR⟩ := hS
 have HI0 : Hid (In w B s x NM L I Q V) := hI
 have HR0 : Hid (Rep L I Q A) := hR
 have hfew : L.length ≤ 1000 := by obtain ⟨S, P, D, D2, hX⟩ := hI; exact Nat.le_trans hX.few (by decide)
 clear hI hR
 go_enter Tryz.func22, Tryz.ntmps22
 go_wp2
 go_loopg [7] (L.length + 1) (fun gk cv wr => ∃ (c : Nat) (L' Q' : List Nat) (V' : BA → Int) (A' : Ab), cv = .int .i64 c ∧ L'.length + 1 ≤ gk ∧ L'.length + c = L.length ∧ (c = 0 ∨ (c : Int) ≤ n) ∧ Hid (In wr B s x NM L' I Q' V') ∧ Hid (Rep L' I Q' A') ∧ Hid (Due A A' V V' t) ∧ Hid (Mb stag B w wr))
 case atStart => exact ⟨0, L, Q, V, A, rfl, Nat.le_refl _, rfl, .inl rfl, HI0, HR0, fun k => .inl ⟨rfl, rfl⟩, Mb.refl _ _ _⟩
 case round =>
  obtain ⟨c, L', Q', V', A', rfl, hg, hlc, hcn, HI, HR, HU, HM⟩ := hrel
  have HEnd : Hid (((c : Int) < n → Still A' t) → CycTo w wr B s x NM A V n t (.returned (.int .i64 c))) := fun hst => by
   obtain ⟨S, P, D, D2, hX⟩ := HI.out
   obtain ⟨S0, P0, D0, D20, hX0⟩ := HI0.out
   exact ⟨A', V', _, _, c, rfl, ⟨HM.out, L', I, Q', HI.out, HR.out⟩, HU.out, hX0.dom HR0.out, hX.dom HR.out, by rw [List.length_map, List.length_map]; exact hlc, hst, hcn⟩
  by_cases hc : (c : Int) < n
  ·obtain ⟨S, P, D, D2, hX⟩ := HI.out
   have HX : Hid (Sx wr B s x NM L' I Q' V' S P D D2) := hX
   have HDu := isDue_any wr B s S L' I P Q' hX.qs t
   have hcd : decide ((c : Int) < n) = true := decide_eq_true hc
   clear hX
   go_wp2_with fail
   refine HDu.mono ?_
   rintro e wr ⟨rfl, r, rfl, hr⟩
   cases r with
   | true =>
    obtain ⟨h0, hu⟩ := hr.1 rfl
    obtain ⟨g, cp, hH⟩ := HX.out.qs.hs h0 Q'.length
    have HF := first_any wr B s S g cp L' I P Q' Q'.length hH h0 (by omega)
    have hpQ : at' Q' 0 ∈ Q' := at_mem h0
    obtain ⟨p, hpe⟩ : ∃ p, at' Q' 0 = p := ⟨_, rfl⟩
    rw [hpe] at HF hu hpQ
    have hpL := HX.out.qs.sub p hpQ
    have HT := take_any wr B s x NM L' I Q' V' HI.out p hpL (fun k => by have := HU.out.le k; have := hv k; omega)
    have HUU : Hid ((I p).u ≤ t) := hu
    have hln : (L'.erase p).length + 1 = L'.length := by
     have := List.length_erase_of_mem hpL
     have := List.length_pos_of_mem hpL
     omega
    clear hH hr hu HDu
    go_wp2_with fail
    refine HF.mono ?_
    rintro e wr ⟨rfl, rfl⟩
    go_wp2_with fail
    refine HT.mono ?_
    rintro e w2 ⟨rfl, hm2, Q2, hin2, hmem⟩
    have HIn : Hid (In w2 B s x NM (L'.erase p) I Q2 (incV V' (I p).k)) := hin2
    have HR2 : Hid (Rep (L'.erase p) I Q2 (setA A' (I p).k none)) := HR.out.del HI.out.inj HI.out.nod hpL hmem
    have HU2 : Hid (Due A (setA A' (I p).k none) V (incV V' (I p).k) t) := HU.out.step (by rw [HR.out.yes p hpL, if_pos hpQ]) HUU.out
    have HM2 : Hid (Mb stag B w w2) := HM.out.trans hm2
    clear hm2 hin2 hmem HT HF
    go_wp2
    go_roundg (gk - 1)
    case measure => omega
    case rel => exact ⟨c + 1, _, Q2, _, _, by go_num, by omega, by omega, .inr (by omega), HIn, HR2, HU2, HM2⟩
   | false =>
    have hd : ¬ (0 < Q'.length ∧ (I (at' Q' 0)).u ≤ t) := fun h => by have := hr.2 h; cases this
    have HE : Hid (CycTo w wr B s x NM A V n t (.returned (.int .i64 c))) := HEnd.out fun _ => still_of HR.out rfl HX.out.qs.ord hd
    clear hd hr HDu
    go_wp2
    go_ret
    exact HE.out
  ·have hcd : decide ((c : Int) < n) = false := decide_eq_false hc
   have HE : Hid (CycTo w wr B s x NM A V n t (.returned (.int .i64 c))) := HEnd.out fun h => absurd h hc
   go_wp2
   go_ret
   exact HE.out
def ScanR (w w' : World) (x : Nat) (A : Ab) (c : Nat) (count : Int) (e : Ending) : Prop :=
 ∃ a n cp g ks, e = .returned (.tuple #[.slice a n cp, .int .u64 ((Dk.scanP x g ks (Dk.cntC count) (10 * Dk.cntC count) [] c).2 : Nat)]) ∧ OwnS w' w.heap.size a n cp (Dk.scanP x g ks (Dk.cntC count) (10 * Dk.cntC count) [] c).1 ∧ Dom A ks ∧ ks.length ≤ 1000
theorem Scan_any (w : World) (B s x : Nat) (NM : List BA) (A : Ab) (V : BA → Int) (hS : Spc w B s x NM A V) (hv : Low V) (c : Nat) (count t : Int) (hc : c < 18446744073709551616) :
  Calls Tryz.prog 28 #[ptr s, .int .u64 c, .int .i64 count, .int .i64 t] w fun e w' => Bo w w' B s x NM A V t ∧ ScanR w w' x (dueA A t) c count e := by
 have HT := Cj w B s x NM A V hS hv t
 go_enter Tryz.func28, Tryz.ntmps28
 go_wp2_with fail
 refine HT.mono ?_
 rintro e w1 ⟨rfl, hm, L, I, Q, ⟨S, P, D, D2, hX⟩, hR⟩
 have HM : Hid (Mb stag B w w1) := hm
 have HX : Hid (Sx w1 B s x NM L I Q (dueV A V t) S P D D2) := hX
 have HR : Hid (Rep L I Q (dueA A t)) := hR
 have HK := Dk.Scan_dict B S.d x D c count w1 hX.kd hc
 have c3 := hX.cd
 clear hX hR hm HT
 obtain ⟨sp, HSP⟩ : ∃ sp, Hid (Dk.scanP x D.g (Dk.Ae D.es) (Dk.cntC count) (10 * Dk.cntC count) [] c = sp) := ⟨_, rfl⟩
 rw [HSP.out] at HK
 go_wp2_with fail
 refine HK.mono ?_
 rintro e w2 ⟨hb, a, n, cp, rfl, hO⟩
 have HE : Hid (Bo w w2 B s x NM A V t ∧ ScanR w w2 x (dueA A t) c count (.returned (.tuple #[.slice a n cp, .int .u64 (sp.2 : Nat)]))) := by
  refine ⟨⟨HM.out.trans (Mb.of_below hb (by have := HX.out.lt; omega)), L, I, Q, ⟨S, P, D, D2, HX.out.keep hb⟩, HR.out⟩, a, n, cp, D.g, Dk.Ae D.es, ?_, ?_, HX.out.domK HR.out, ?_⟩
  ·rw [HSP.out]
  ·rw [HSP.out]; exact Dk.OwnR.low hO HM.out.mv.size
  ·have h1 := HX.out.len
   have h2 := HX.out.few
   rw [List.length_map]
   omega
 clear hb hO HK
 go_wp2
 go_ret2
 exact HE.out
def among (l : List BA) (k : BA) : Bool := l.any fun r => decide (r = k)
theorem Cz {l : List BA} {k : BA} : among l k = true ↔ k ∈ l := by
 unfold among
 rw [List.any_eq_true]
 constructor
 ·rintro ⟨r, hr, h⟩
  rw [← of_decide_eq_true h]; exact hr
 ·intro h
  exact ⟨k, h, decide_eq_true rfl⟩
def flV (V : BA → Int) (l : List BA) : BA → Int := fun k => if among l k = true then V k + 1 else V k
theorem flV_nil (V : BA → Int) : flV V [] = V := by
 funext k
 unfold flV
 rw [if_neg (fun h => by have := Cz.1 h; simp at this)]
theorem flV_snoc (V : BA → Int) (l : List BA) (k : BA) (h : k ∉ l) : incV (flV V l) k = flV V (l ++ [k]) := by
 funext j
 unfold incV flV
 by_cases e : j = k
 ·subst e
  rw [if_pos rfl, if_neg (fun h1 => h (Cz.1 h1)), if_pos (Cz.2 (by simp))]
 ·rw [if_neg e]
  by_cases hj : j ∈ l
  ·rw [if_pos (Cz.2 hj), if_pos (Cz.2 (by simp [hj]))]
  ·rw [if_neg (fun h1 => hj (Cz.1 h1)), if_neg (fun h1 => by have := Cz.1 h1; simp [hj, e] at this)]
theorem flV_le (V : BA → Int) (l : List BA) (k : BA) : V k ≤ flV V l k ∧ flV V l k ≤ V k + 1 := by
 unfold flV
 split <;> omega
def fluV {α : Type} (A : AbV α) (V : BA → Int) : BA → Int := fun k => if (A k).isSome then V k + 1 else V k
theorem flV_dom {A : Ab} {ks : List BA} (h : Dom A ks) (V : BA → Int) : flV V ks = fluV A V := by
 funext k
 unfold flV fluV
 by_cases hk : k ∈ ks
 ·rw [if_pos (Cz.2 hk), if_pos ((h.iff k).1 hk)]
 ·rw [if_neg (fun h1 => hk (Cz.1 h1)), if_neg (fun e => hk ((h.iff k).2 e))]
theorem Sx.flush {w w1 : World} {B s x : Nat} {NM : List BA} {L : List Nat} {I : Nat → Itm} {Q : List Nat} {V : BA → Int} {S : Sd} {P : Nat → Int} {D D' : Dk.Dg} {D2 : Zs.Dk.Dg} (H : Sx w B s x NM L I Q V S P D D2) (hb : Below w.heap.size w w1) {d : Nat} (hD : Dk.Dct w1 w.heap.size d x D') (he : D'.es = []) {w2 : World} (hw : w2 = (w1.setCell ⟨s, 3, none⟩ (ptr d)).setCell ⟨s, 4, none⟩ (.slice none 0 0)) :
  Spc w2 B s x NM (fun _ => none) V ∧ Mb stag B w w2 := by
 obtain ⟨a, c, h1, -⟩ := (H.qs.keep hb).ex
 have hlt := H.lt
 have n1 := Ak (o := 3) (v := ptr d) h1
 have n2 := Ak (o := 4) (v := .slice none 0 0) n1
 rw [← hw] at n2
 have hm : Mb qtag B w1 w2 := by rw [hw]; exact (Mb.set (p := qtag) h1 (by decide) H.qs.low).trans (Mb.set (p := qtag) n1 (by decide) H.qs.low)
 have hD' := lowK hD (show B ≤ w.heap.size by omega)
 refine ⟨⟨[], fun _ => ⟨⟨#[]⟩, none, 0⟩, [], ⟨⟨S.x, S.E, S.T, d, S.v⟩, fun _ => -1, D', D2, H.sx, ⟨⟨none, 0, n2, OwnR.nil _ _ _ _⟩, fun p hp => absurd hp (by simp), fun p hp => absurd hp (by simp), fun i hi => absurd hi (by simp), fun i _ hi => absurd hi (by simp), fun p hp => absurd hp (by simp), List.nodup_nil, H.qs.low, by simp⟩, hD'.mv hm.mv d_q, (H.vd.keep hb).mv (toE hm.mv) e_q, ?_, H.vp, H.vn, fun p hp => absurd hp (by simp), H.nm, H.sz⟩, ⟨fun p hp => absurd hp (by simp), fun k y h => absurd h (by simp)⟩⟩, (Mb.of_below hb (by omega)).trans (Mb.mono hm stag_q)⟩
 rw [he]; exact List.Perm.refl _
def FluTo (w w' : World) (B s x : Nat) (NM : List BA) (A : Ab) (V : BA → Int) : Prop := To w w' B s x NM (fun _ => none) (fluV A V)
set_option maxRecDepth 100000 in
theorem Flush_any (w : World) (B s x : Nat) (NM : List BA) (A : Ab) (V : BA → Int) (hS : Spc w B s x NM A V) (hv : Low V) :
  Calls Tryz.prog 61 #[ptr s] w fun e w' => e = .returned (.tuple #[]) ∧ FluTo w w' B s x NM A V := by
 obtain ⟨L, I, Q, ⟨S, P, D, D2, hX⟩, hR⟩ := hS
 have HX : Hid (Sx w B s x NM L I Q V S P D D2) := hX
 have HR : Hid (Rep L I Q A) := hR
 have HK := Dk.Keys_dict B S.d x D w hX.kd
 have c3 := hX.cd
 clear hX hR
 go_enter Tryz.func61, Tryz.ntmps61
 go_wp2_with fail
 refine HK.mono ?_
 rintro e w1 ⟨hb1, a, n, c, rfl, hO⟩
 obtain ⟨ks, hks⟩ : ∃ ks, Dk.Ae (Dk.esL (Dk.ordU D.L (2 ^ D.g))) = ks := ⟨_, rfl⟩
 rw [hks] at hO
 have HD : Hid (Dom A ks) := by
  show Dom A ks
  rw [← hks]
  exact (HX.out.domK HR.out).perm ((HX.out.kd.ord_perm.flatMap_right Dk.Lf.es).map (·.1)).symm
 have HO : Hid (OwnS w1 w.heap.size a n c ks) := hO
 have HL : Hid (ks.length = n) := Dk.OwnS.len hO
 have hn1 : n ≤ 1000 := by
  have h1 := HX.out.len
  have h2 := HX.out.few
  have h3 := ((HX.out.kd.ord_perm.flatMap_right Dk.Lf.es).map (·.1)).length_eq
  have h4 : ks.length = (Dk.Ae D.es).length := by rw [← hks]; exact h3
  have h5 : (Dk.Ae D.es).length = D.es.length := List.length_map ..
  have h6 := HL.out
  omega
 have HI1 : Hid (In w1 B s x NM L I Q V) := ⟨S, P, D, D2, HX.out.keep hb1⟩
 have HM1 : Hid (Mb stag B w w1) := Mb.of_below hb1 (by have := HX.out.lt; omega)
 have HNM : Hid (∀ k ∈ ks, k ∈ NM) := fun k hk => by
  obtain ⟨y, hy⟩ := Option.isSome_iff_exists.1 ((HD.out.iff k).1 hk)
  obtain ⟨p, hp, rfl⟩ := HR.out.no k y hy
  exact HX.out.key p hp
 clear hb1 hO hks HK c3
 go_wp2
 go_loopg [10] (n + 1) (fun gk iv wr => ∃ i : Nat, iv = .int .i64 i ∧ i + gk = n + 1 ∧ i ≤ n ∧ Hid (In wr B s x NM L I Q (flV V (ks.take i))) ∧ Hid (Mb stag B w wr) ∧ Hid (OwnS wr w.heap.size a n c ks))
 case atStart => exact ⟨0, rfl, by omega, by omega, by rw [List.take_zero, flV_nil]; exact HI1, HM1, HO⟩
 case round =>
  obtain ⟨i, rfl, hi, hin, HI, HM, HOr⟩ := hrel
  by_cases h1 : (i : Int) < n
  ·obtain ⟨g, rfl, hcell⟩ := Dk.OwnS.cell HOr.out (j := i) (by omega)
   have hil : i < ks.length := by have := HL.out; omega
   have hmem : ks.getD i ⟨#[]⟩ ∈ ks := by
    rw [List.getD_eq_getElem?_getD, List.getElem?_eq_getElem hil]
    exact List.getElem_mem hil
   have hsn : ks.take (i + 1) = ks.take i ++ [ks.getD i ⟨#[]⟩] := Dk.Bx ks ⟨#[]⟩ i hil
   have hni : ks.getD i ⟨#[]⟩ ∉ ks.take i := fun h => by
    have h2 := HD.out.nod
    rw [← List.take_append_drop (i + 1) ks, List.nodup_append, hsn, List.nodup_append] at h2
    exact h2.1.2.2 _ h _ (by simp) rfl
   generalize ks.getD i ⟨#[]⟩ = k at hcell hmem hsn hni
   have HC := change_any wr B s x NM L I Q _ HI.out k (HNM.out k hmem) (by have := hv k; have := flV_le V (ks.take i) k; omega)
   rw [flV_snoc V _ k hni, ← hsn] at HC
   clear hsn hni hmem
   go_wp2_with fail
   refine HC.mono ?_
   rintro e w2 ⟨rfl, hm2, hi2⟩
   have HI2 : Hid (In w2 B s x NM L I Q (flV V (ks.take (i + 1)))) := hi2
   have HM2 : Hid (Mb stag B w w2) := HM.out.trans hm2
   have HO2 : Hid (OwnS w2 w.heap.size (some ⟨g, 0, none⟩) n c ks) := Dk.OwnR.mv HOr.out hm2.mv (by decide)
   clear hm2 hi2 HC hcell
   go_wp2
   go_roundg (gk - 1)
   case measure => omega
   case rel => exact ⟨i + 1, by go_num, by omega, by omega, HI2, HM2, HO2⟩
  ·obtain rfl : i = n := by omega
   obtain ⟨S1, P1, D1, D3, hX1⟩ := HI.out
   rw [List.take_of_length_le (by have := HL.out; omega), flV_dom HD.out] at hX1
   have HX1 : Hid (Sx wr B s x NM L I Q (fluV A V) S1 P1 D1 D3) := hX1
   have hc0 : wr.cell? ⟨s, 0, none⟩ = some (.int .u64 (x : Nat)) := by
    obtain ⟨a, c, h1, -⟩ := hX1.qs.ex
    rw [← hX1.sx]
    simp [World.cell?, h1]
   have HNw := Dk.New_dict x wr hX1.kd.seed
   clear hX1
   go_wp2_with fail
   refine HNw.mono ?_
   rintro e w2 ⟨hb2, d, D', rfl, hD, -, -, hes⟩
   obtain ⟨w3, hw3⟩ : ∃ w3, w2.setCell ⟨s, 3, none⟩ (ptr d) = w3 := ⟨_, rfl⟩
   obtain ⟨w4, hw4⟩ : ∃ w4, w3.setCell ⟨s, 4, none⟩ (.slice none 0 0) = w4 := ⟨_, rfl⟩
   have HE : Hid (FluTo w w4 B s x NM A V) := by
    obtain ⟨k1, k2⟩ := HX1.out.flush hb2 hD hes (w2 := w4) (by rw [← hw4, ← hw3])
    exact ⟨HM.out.trans k2, k1⟩
   obtain ⟨qv, hblk⟩ : ∃ qv, w2.heap[s]? = some (.cells (By S1 qv) 85 (0, 0)) := by
    obtain ⟨a, c, h1, -⟩ := (HX1.out.qs.keep hb2).ex
    exact ⟨_, h1⟩
   have e1 : w2.cell? ⟨s, 3, none⟩ = some (ptr S1.d) := by simp [World.cell?, hblk]
   have e2 : w2.frozen? ⟨s, 3, none⟩ = false := by simp [World.frozen?, hblk]
   have hblk3 := Ak (o := 3) (v := ptr d) hblk
   rw [hw3] at hblk3
   have e3 : w3.cell? ⟨s, 4, none⟩ = some qv := by simp [World.cell?, hblk3]
   have e4 : w3.frozen? ⟨s, 4, none⟩ = false := by simp [World.frozen?, hblk3]
   clear hb2 hD hes HNw hc0 hblk hblk3
   go_wp2
   go_end0
   exact ⟨rfl, HE.out⟩
def PickR (A : Ab) (e : Ending) : Prop := Dom A [] ∧ e = .returned (.tuple #[.string ⟨#[]⟩, .bool false]) ∨ ∃ k, (A k).isSome = true ∧ e = .returned (.tuple #[.string k, .bool true])
theorem Pick_any (w : World) (B s x : Nat) (NM : List BA) (A : Ab) (V : BA → Int) (hS : Spc w B s x NM A V) (hv : Low V) (c : Nat) (t : Int) (hc : c < 18446744073709551616) :
  Calls Tryz.prog 96 #[ptr s, .int .u64 c, .int .i64 t] w fun e w' => Bo w w' B s x NM A V t ∧ PickR (dueA A t) e := by
 have HT := Cj w B s x NM A V hS hv t
 go_enter Tryz.func96, Tryz.ntmps96
 go_wp2_with fail
 refine HT.mono ?_
 rintro e w1 ⟨rfl, hm, L, I, Q, ⟨S, P, D, D2, hX⟩, hR⟩
 have HM : Hid (Mb stag B w w1) := hm
 have HX : Hid (Sx w1 B s x NM L I Q (dueV A V t) S P D D2) := hX
 have HR : Hid (Rep L I Q (dueA A t)) := hR
 have c3 := hX.cd
 have HDm : Hid (Dom (dueA A t) (Dk.Ae D.es)) := hX.domK hR
 by_cases h0 : D.es.length = 0
 ·have HK := Dk.Pick_none B S.d x D c w1 hX.kd h0
  have HE : Hid (Bo w w1 B s x NM A V t ∧ PickR (dueA A t) (.returned (.tuple #[.string ⟨#[]⟩, .bool false]))) := by
   refine ⟨⟨hm, L, I, Q, ⟨S, P, D, D2, hX⟩, hR⟩, .inl ⟨?_, rfl⟩⟩
   have h1 := HDm.out
   rw [List.eq_nil_of_length_eq_zero h0] at h1
   exact h1
  clear hX hR hm HT
  go_wp2_with fail
  refine HK.mono ?_
  rintro e w1 ⟨rfl, rfl⟩
  go_wp2
  go_ret2
  exact HE.out
 ·have HK := Dk.Pick_some B S.d x D c w1 hX.kd (by omega) hc
  have HP : Hid ((dueA A t (Dk.pickK D c)).isSome = true) := by
   refine (HDm.out.iff _).1 ?_
   have hp := (hX.kd.ord_perm.flatMap_right Dk.Lf.es).map (·.1)
   refine hp.mem_iff.1 ?_
   unfold Dk.pickK
   have hl : c % D.es.length < (Dk.Ae (Dk.esL (Dk.ordU D.L (2 ^ D.g)))).length := by
    have h1 : (Dk.Ae (Dk.esL (Dk.ordU D.L (2 ^ D.g)))).length = (Dk.Ae D.es).length := hp.length_eq
    have h2 : (Dk.Ae D.es).length = D.es.length := List.length_map ..
    rw [h1, h2]
    exact Nat.mod_lt _ (by omega)
   rw [List.getD_eq_getElem?_getD, List.getElem?_eq_getElem hl]
   exact List.getElem_mem hl
  generalize Dk.pickK D c = k at HK HP
  clear hX hR hm HT
  go_wp2_with fail
  refine HK.mono ?_
  rintro e w2 ⟨rfl, hb⟩
  have HE : Hid (Bo w w2 B s x NM A V t ∧ PickR (dueA A t) (.returned (.tuple #[.string k, .bool true]))) :=
   ⟨⟨HM.out.trans (Mb.of_below hb (by have := HX.out.lt; omega)), L, I, Q, ⟨S, P, D, D2, HX.out.keep hb⟩, HR.out⟩, .inr ⟨k, HP.out, rfl⟩⟩
  clear hb HK
  go_wp2
  go_ret2
  exact HE.out
structure Kr where
 nm : BA
 th : Bool
 kd : Int
 tx : BA
 pa : Option Addr
 pc : Nat
 la : Option Addr
 ln : Nat
 lc : Nat
 ls : List BA
 at' : Int
 en : Bool
 ver : Int
def Kr.cells (r : Kr) : List Value := [.string r.nm, .bool r.th, .int .i64 r.kd, .string r.tx, .slice r.pa 0 r.pc, .slice r.la r.ln r.lc, .int .i64 r.at', .bool r.en, .int .u64 r.ver]
def Kr.off (nm : BA) (ver : Int) : Kr := ⟨nm, false, 0, ⟨#[]⟩, none, 0, none, 0, 0, [], 0, false, ver⟩
def Bm (rows : List Kr) : List Value := rows.flatMap Kr.cells
theorem kcells_len (rows : List Kr) : (Bm rows).length = rows.length * 9 := by
 induction rows with
 | nil => rfl
 | cons r rows ih =>
  show (r.cells ++ Bm rows).length = _
  rw [List.length_append, ih, List.length_cons]
  show 9 + _ = _
  omega
theorem kcells_get (rows : List Kr) (i j : Nat) (hj : j < 9) (r : Kr) (hr : rows[i]? = some r) : (Bm rows)[i * 9 + j]? = r.cells[j]? := by
 induction rows generalizing i with
 | nil => cases hr
 | cons q rows ih =>
  show (q.cells ++ Bm rows)[i * 9 + j]? = _
  cases i with
  | zero =>
   cases hr
   rw [Nat.zero_mul, Nat.zero_add, List.getElem?_append_left (by show j < 9; exact hj)]
  | succ i =>
   rw [List.getElem?_append_right (by show 9 ≤ _; omega)]
   rw [← ih i hr]
   congr 1
   show (i + 1) * 9 + j - 9 = _
   omega
structure RdL (w : World) (a : Option Addr) (n c : Nat) (ls : List BA) : Prop where
 len : ls.length = n
 fit : n ≤ c
 max : c ≤ maxLen
 nul : a = none → c = 0
 cell : ∀ i, i < n → ∃ b off cs, a = some ⟨b, off, none⟩ ∧ w.heap[b]? = some (.cells cs 9 (0, 0)) ∧ cs[off + i]? = some (.string (ls.getD i ⟨#[]⟩))
theorem RdL.nil (w : World) : RdL w none 0 0 [] := ⟨rfl, Nat.le_refl _, Nat.zero_le _, fun _ => rfl, fun _ hi => absurd hi (Nat.not_lt_zero _)⟩
theorem RdL.mv {w w' : World} {a : Option Addr} {n c : Nat} {ls : List BA} {t : TypeId → Bool} (h : RdL w a n c ls) (hm : Mv t w w') (ht : t 9 = false) : RdL w' a n c ls := by
 refine ⟨h.len, h.fit, h.max, h.nul, fun i hi => ?_⟩
 obtain ⟨b, off, cs, e, h1, h2⟩ := h.cell i hi
 exact ⟨b, off, cs, e, by rw [hm.block b _ _ h1 ht]; exact h1, h2⟩
structure Md (w : World) (B m : Nat) (rows : List Kr) : Prop where
 ex : ∃ a cap, w.heap[m]? = some (.cells #[.slice a rows.length cap] 104 (0, 0)) ∧ OwnR w B 115 9 a rows.length cap (Bm rows)
 lst : ∀ r ∈ rows, RdL w r.la r.ln r.lc r.ls
 nod : (rows.map (·.nm)).Nodup
 few : rows.length ≤ 1000
 vle : ∀ r ∈ rows, 0 ≤ r.ver ∧ r.ver < 4611686018427387904
 low : B ≤ m
def mtag (t : TypeId) : Bool := t == 104 || t == 115
theorem Tryz.infoK : (Tryz.prog.info? 115).map (fun i => (i.zero, i.size, i.bytes)) = some (some (.agg #[.string ⟨#[]⟩, .bool false, .int .i64 0, .string ⟨#[]⟩, .slice none 0 0, .slice none 0 0, .int .i64 0, .bool false, .int .u64 0]), 9, 120) := by kernel_rfl
theorem eltK : Elt 102 115 9 120 := A4 Tryz.underlying102 Tryz.infoK rfl (by decide)
section
variable {w : World} {B m : Nat} {rows : List Kr}
theorem Md.head (H : Md w B m rows) : ∃ a cap, w.cell? ⟨m, 0, none⟩ = some (.slice a rows.length cap) := by
 obtain ⟨a, c, h1, -⟩ := H.ex
 exact ⟨a, c, by simp [World.cell?, h1]⟩
structure Row9 (w : World) (g i : Nat) (r : Kr) : Prop where
 c0 : w.cell? ⟨g, i * 9, none⟩ = some (.string r.nm)
 c1 : w.cell? ⟨g, i * 9 + 1, none⟩ = some (.bool r.th)
 c2 : w.cell? ⟨g, i * 9 + 2, none⟩ = some (.int .i64 r.kd)
 c3 : w.cell? ⟨g, i * 9 + 3, none⟩ = some (.string r.tx)
 c4 : w.cell? ⟨g, i * 9 + 4, none⟩ = some (.slice r.pa 0 r.pc)
 c5 : w.cell? ⟨g, i * 9 + 5, none⟩ = some (.slice r.la r.ln r.lc)
 c6 : w.cell? ⟨g, i * 9 + 6, none⟩ = some (.int .i64 r.at')
 c7 : w.cell? ⟨g, i * 9 + 7, none⟩ = some (.bool r.en)
 c8 : w.cell? ⟨g, i * 9 + 8, none⟩ = some (.int .u64 r.ver)
theorem Md.row (H : Md w B m rows) {i : Nat} {r : Kr} (hr : rows[i]? = some r) : ∃ g cap, w.cell? ⟨m, 0, none⟩ = some (.slice (some ⟨g, 0, none⟩) rows.length cap) ∧ Row9 w g i r ∧ ∀ o, w.frozen? ⟨g, o, none⟩ = false := by
 obtain ⟨a, c, h1, h2⟩ := H.ex
 have hi : i < rows.length := (List.getElem?_eq_some_iff.1 hr).1
 obtain ⟨g, rfl, h3⟩ := OwnR.at h2 (by omega)
 obtain ⟨-, -, cur, h4⟩ := OwnR.lt h2 (k := g) rfl
 have hc : ∀ j v, j < 9 → r.cells[j]? = some v → w.cell? ⟨g, i * 9 + j, none⟩ = some v := fun j v hj hv => h3 _ _ (by rw [kcells_get rows i j hj r hr]; exact hv)
 exact ⟨g, c, by simp [World.cell?, h1], ⟨hc 0 _ (by decide) rfl, hc 1 _ (by decide) rfl, hc 2 _ (by decide) rfl, hc 3 _ (by decide) rfl, hc 4 _ (by decide) rfl, hc 5 _ (by decide) rfl, hc 6 _ (by decide) rfl, hc 7 _ (by decide) rfl, hc 8 _ (by decide) rfl⟩, fun o => by simp [World.frozen?, h4]⟩
end
theorem splice_set9 (cur : List Value) (o : Nat) (v : Value) (vs : List Value) (h : o + (vs.length + 1) ≤ cur.length) : splice (cur.set o v) (o + 1) vs = splice cur o (v :: vs) := Dk.splice_set cur o v vs h
theorem blk_cells {g : Nat} {t : TypeId} : ∀ (vs : List Value) (o : Nat) (w : World) (cur : List Value), w.heap[g]? = some (.cells cur.toArray t (0, 0)) → o + vs.length ≤ cur.length → (w.setCells g o vs).heap[g]? = some (.cells (splice cur o vs).toArray t (0, 0))
 | [], o, w, cur, h, hl => by simpa [splice, World.setCells] using h
 | v :: vs, o, w, cur, h, hl => by
  have h0 : (w.setCell ⟨g, o, none⟩ v).heap[g]? = some (.cells (cur.set o v).toArray t (0, 0)) := by
   rw [Ak h]
   simp
  have h1 := blk_cells vs (o + 1) (w.setCell ⟨g, o, none⟩ v) (cur.set o v) h0 (by simp at hl ⊢; omega)
  rw [splice_set9 cur o v vs (by simpa using hl)] at h1
  exact h1
theorem blk_other {g k : Nat} (hk : k ≠ g) : ∀ (vs : List Value) (o : Nat) (w : World), (w.setCells g o vs).heap[k]? = w.heap[k]?
 | [], _, _ => rfl
 | v :: vs, o, w => (blk_other hk vs (o + 1) (w.setCell ⟨g, o, none⟩ v)).trans (Ar hk)
theorem setCells_size {g : Nat} : ∀ (vs : List Value) (o : Nat) (w : World), (w.setCells g o vs).heap.size = w.heap.size ∧ (w.setCells g o vs).os = w.os ∧ (w.setCells g o vs).tape = w.tape ∧ (w.setCells g o vs).output = w.output
 | [], _, _ => ⟨rfl, rfl, rfl, rfl⟩
 | v :: vs, o, w => by
  obtain ⟨h1, h2, h3, h4⟩ := setCells_size (g := g) vs (o + 1) (w.setCell ⟨g, o, none⟩ v)
  exact ⟨h1.trans (by simp [World.setCell]), h2, h3, h4⟩
theorem Mb.cells {p : TypeId → Bool} {B g o : Nat} {w : World} {vs : List Value} {cs : Array Value} {t : TypeId} (h : w.heap[g]? = some (.cells cs t (0, 0))) (ht : p t = true) (hB : B ≤ g) : Mb p B w (w.setCells g o vs) := by
 obtain ⟨h1, h2, h3, h4⟩ := setCells_size (g := g) vs o w
 refine ⟨⟨h2, h3, h4, Nat.le_of_eq h1.symm, fun k cs' t' hk hp => blk_other (fun e => ?_) vs o w⟩, ⟨h2, h3, h4, Nat.le_of_eq h1.symm, fun k hk => blk_other (by omega) vs o w⟩⟩
 subst e
 rw [h] at hk
 injection hk with hk
 injection hk with _ e2
 rw [← e2, ht] at hp
 cases hp
theorem splice_right (a b : List Value) (o : Nat) (vs : List Value) : splice (a ++ b) (a.length + o) vs = a ++ splice b o vs := by
 unfold splice
 simp only [List.take_length_add_append, Nat.add_assoc, List.drop_length_add_append, List.append_assoc]
theorem splice_left (a b : List Value) (o : Nat) (vs : List Value) (h : o + vs.length ≤ a.length) : splice (a ++ b) o vs = splice a o vs ++ b := by
 unfold splice
 rw [List.take_append_of_le_length (by omega), List.drop_append_of_le_length h]
 simp only [List.append_assoc]
theorem splice_len (a : List Value) (o : Nat) (vs : List Value) (h : o + vs.length ≤ a.length) : (splice a o vs).length = a.length := by
 unfold splice
 rw [List.length_append, List.length_append, List.length_take, List.length_drop]
 omega
theorem kcells_set (rows : List Kr) (i : Nat) (r : Kr) (hi : i < rows.length) : Bm (rows.set i r) = splice (Bm rows) (i * 9) r.cells := by
 induction rows generalizing i with
 | nil => simp at hi
 | cons q rows ih =>
  cases i with
  | zero =>
   show r.cells ++ Bm rows = splice (q.cells ++ Bm rows) 0 r.cells
   unfold splice
   rfl
  | succ i =>
   show q.cells ++ Bm (rows.set i r) = splice (q.cells ++ Bm rows) ((i + 1) * 9) r.cells
   have e : (i + 1) * 9 = q.cells.length + i * 9 := by show _ = 9 + _; omega
   rw [ih i (by simpa using hi), e, splice_right]
theorem Md.set {w : World} {B m : Nat} {rows : List Kr} (H : Md w B m rows) {i g c : Nat} (hi : i < rows.length) (hg : w.cell? ⟨m, 0, none⟩ = some (.slice (some ⟨g, 0, none⟩) rows.length c)) {r : Kr} (hn : r.nm = (rows.map (·.nm)).getD i ⟨#[]⟩) (hl : RdL w r.la r.ln r.lc r.ls) (hv : 0 ≤ r.ver ∧ r.ver < 4611686018427387904) {w' : World} (hw : w' = w.setCells g (i * 9) r.cells) : Md w' B m (rows.set i r) ∧ Mb mtag B w w' := by
 obtain ⟨a, c', h1, h2⟩ := H.ex
 have e : (Value.slice a rows.length c') = .slice (some ⟨g, 0, none⟩) rows.length c := by
  have : w.cell? ⟨m, 0, none⟩ = some (.slice a rows.length c') := by simp [World.cell?, h1]
  rw [hg] at this
  injection this with this
  exact this.symm
 injection e with e1 e2 e3
 subst e1
 subst e3
 have hmap : (rows.set i r).map (·.nm) = rows.map (·.nm) := by
  rw [List.map_set, hn]
  have hi' : i < (rows.map (·.nm)).length := by rw [List.length_map]; exact hi
  rw [List.getD_eq_getElem?_getD, List.getElem?_eq_getElem hi']
  exact List.set_getElem_self hi'
 rcases h2.2 with ⟨h3, h4⟩ | ⟨g', c'', cur, h3, h4, h5, h6, h7, h8, h9⟩
 ·cases h3
 ·cases h3
  have hl9 : r.cells.length = 9 := rfl
  have hlen := kcells_len rows
  have hb9 : i * 9 + 9 ≤ cur.toList.length := by
   have : cur.toList.length = cur.size := by simp
   omega
  have h5' : w.heap[g]? = some (.cells cur.toList.toArray 115 (0, 0)) := by simpa using h5
  have hb := blk_cells r.cells (i * 9) w cur.toList h5' (by rw [hl9]; exact hb9)
  have hgm : m ≠ g := Bj h1 h5 (by decide)
  have hM : Mb mtag B w w' := by rw [hw]; exact Mb.cells h5 (by decide) h4
  have hq' : ∀ q ∈ rows.set i r, q ∈ rows ∨ q = r := fun q hq => List.mem_or_eq_of_mem_set hq
  refine ⟨⟨⟨some ⟨g, 0, none⟩, c', ?_, ?_⟩, fun q hq => ?_, by rw [hmap]; exact H.nod, by rw [List.length_set]; exact H.few, fun q hq => ?_, H.low⟩, hM⟩
  ·rw [hw, blk_other hgm, List.length_set]; exact h1
  ·rw [List.length_set, kcells_set rows i r hi, hw]
   have hk9 : i * 9 + r.cells.length ≤ (Bm rows).length := by rw [hl9, hlen]; omega
   refine ⟨?_, .inr ⟨g, c', (splice cur.toList (i * 9) r.cells).toArray, rfl, h4, hb, h6, h7, ?_, ?_⟩⟩
   ·rw [splice_len _ _ _ hk9, hlen]
   ·rw [List.size_toArray, splice_len _ _ _ (by rw [hl9]; exact hb9)]
    simpa using h8
   ·have h10 : cur.toList.take (rows.length * 9) = Bm rows := h9
    show (splice cur.toList (i * 9) r.cells).take (rows.length * 9) = splice (Bm rows) (i * 9) r.cells
    have h11 : cur.toList = Bm rows ++ cur.toList.drop (rows.length * 9) := by rw [← h10, List.take_append_drop]
    rw [h11, splice_left _ _ _ _ hk9]
    have h12 : (splice (Bm rows) (i * 9) r.cells).length = rows.length * 9 := by rw [splice_len _ _ _ hk9, hlen]
    rw [← h12, List.take_left]
  ·rcases hq' q hq with h | rfl
   ·exact (H.lst q h).mv hM.mv (by decide)
   ·exact hl.mv hM.mv (by decide)
  ·rcases hq' q hq with h | rfl
   ·exact H.vle q h
   ·exact hv
end Go.Proofs.YtmjeljldmmkcpaaGreat.Sq
