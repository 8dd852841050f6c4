/- Texts that the others stand on. -/
import Derived.Test.YtmjeljldmmkcpaaGreatG15
namespace Go.Proofs.YtmjeljldmmkcpaaGreat.Sq
open Go.RowKit Go.PlainAid
open Dk (ptr below_drewN alloc_below step_below add_flat OwnR OwnP OwnS Mv pcells Elt elt_of)
/-- These keys are there, each once. -/
structure Dom (A : Ab) (ks : List ByteArray) : Prop where
  nod : ks.Nodup
  iff : ∀ k, k ∈ ks ↔ (A k).isSome = true
theorem Dom.perm {A : Ab} {ks js : List ByteArray} (h : Dom A ks) (hp : ks.Perm js) : Dom A js := ⟨hp.nodup_iff.1 h.nod, fun k => by rw [← hp.mem_iff]; exact h.iff k⟩
theorem nodup_perm {ks js : List ByteArray} (h : ks.Nodup) (h' : js.Nodup) (hm : ∀ k, k ∈ ks ↔ k ∈ js) : ks.Perm js := (List.perm_ext_iff_of_nodup h h').2 hm
theorem Dom.same {A : Ab} {ks js : List ByteArray} (h : Dom A ks) (h' : Dom A js) : ks.Perm js := nodup_perm h.nod h'.nod fun k => by rw [h.iff, h'.iff]
theorem Sx.dom {w : World} {B s x : Nat} {NM : List ByteArray} {L : List Nat} {I : Nat → Itm} {Q : List Nat} {V : ByteArray → Int} {S : Sd} {P : Nat → Int} {D : Dk.Dg} {D2 : Zs.Dk.Dg} (H : Sx w B s x NM L I Q V S P D D2) {A : Ab} (hR : Rep L I Q A) : Dom A (L.map fun p => (I p).k) := by
  refine ⟨H.nodk, fun k => ⟨fun h => ?_, fun h => ?_⟩⟩
  · obtain ⟨p, hp, rfl⟩ := List.mem_map.1 h
    rw [hR.yes p hp]; rfl
  · obtain ⟨y, hy⟩ := Option.isSome_iff_exists.1 h
    obtain ⟨p, hp, e⟩ := hR.no k y hy
    exact List.mem_map.2 ⟨p, hp, e⟩
theorem Sx.domK {w : World} {B s x : Nat} {NM : List ByteArray} {L : List Nat} {I : Nat → Itm} {Q : List Nat} {V : ByteArray → Int} {S : Sd} {P : Nat → Int} {D : Dk.Dg} {D2 : Zs.Dk.Dg} (H : Sx w B s x NM L I Q V S P D D2) {A : Ab} (hR : Rep L I Q A) : Dom A (Dk.keysOf D.es) := by
  have h1 := H.kp.map (·.1)
  have h2 := H.dom hR
  have e : (kents L I).map (·.1) = L.map fun p => (I p).k := keys_kents L I
  rw [e] at h1
  exact h2.perm h1.symm
/-- A number came back: how many keys are there. -/
def LenR (e : Ending) (A : Ab) : Prop := ∃ ks, Dom A ks ∧ e = .returned (.int .i64 (ks.length : Nat))
theorem Len_any (w : World) (B s x : Nat) (NM : List ByteArray) (A : Ab) (V : ByteArray → Int) (hS : Spc w B s x NM A V) (hv : Low V) (t : Int) :
    Calls Tryz.prog 15 #[ptr s, .int .i64 t] w fun e w' => DueTo w w' B s x NM A V t ∧ LenR e (dueA A t) := by
  have HT := takeDue_any w B s x NM A V hS hv t
  go_enter Tryz.func15, Tryz.ntmps15
  go_wp2_with fail
  refine HT.mono ?_
  rintro e w1 ⟨rfl, hm, L, I, Q, ⟨S, P, D, D2, hX⟩, hR⟩
  have HE : Hid (DueTo w w1 B s x NM A V t) := ⟨hm, L, I, Q, ⟨S, P, D, D2, hX⟩, hR⟩
  have HD : Hid (Dom (dueA A t) (Dk.keysOf D.es)) := hX.domK hR
  have HL := Dk.Len_dict B S.d x D w1 hX.kd
  have c3 := hX.cd
  have hl : D.es.length = (Dk.keysOf D.es).length := (List.length_map ..).symm
  rw [hl] at HL
  generalize Dk.keysOf D.es = ks at HL HD
  clear hX hR hl hm HT
  go_wp2_with fail
  refine HL.mono ?_
  rintro e w1 ⟨rfl, rfl⟩
  have HF : Hid (LenR (.returned (.int .i64 (ks.length : Nat))) (dueA A t)) := ⟨ks, HD.out, rfl⟩
  generalize ks.length = n at HF ⊢
  go_wp2
  go_ret
  exact ⟨HE.out, HF.out⟩
/-- A row of texts came back: the keys that are there. -/
def KeysR (w w' : World) (e : Ending) (A : Ab) : Prop := ∃ a n c ks, e = .returned (.slice a n c) ∧ OwnS w' w.heap.size a n c ks ∧ Dom A ks
theorem Keys_any (w : World) (B s x : Nat) (NM : List ByteArray) (A : Ab) (V : ByteArray → Int) (hS : Spc w B s x NM A V) (hv : Low V) (t : Int) :
    Calls Tryz.prog 25 #[ptr s, .int .i64 t] w fun e w' => DueTo w w' B s x NM A V t ∧ KeysR w w' e (dueA A t) := by
  have HT := takeDue_any w B s x NM A V hS hv t
  go_enter Tryz.func25, Tryz.ntmps25
  go_wp2_with fail
  refine HT.mono ?_
  rintro e w1 ⟨rfl, hm, L, I, Q, ⟨S, P, D, D2, hX⟩, hR⟩
  have HM : Hid (Mb stag B w w1) := hm
  have HX : Hid (Sx w1 B s x NM L I Q (dueV A V t) S P D D2) := hX
  have HR : Hid (Rep L I Q (dueA A t)) := hR
  have HK := Dk.Keys_dict B S.d x D w1 hX.kd
  have c3 := hX.cd
  clear hX hR hm HT
  go_wp2_with fail
  refine HK.mono ?_
  rintro e w2 ⟨hb, a, n, c, rfl, hO⟩
  have HE : Hid (DueTo w w2 B s x NM A V t ∧ KeysR w w2 (.returned (.slice a n c)) (dueA A t)) := by
    refine ⟨⟨HM.out.trans (Mb.of_below hb (by have := HX.out.lt; omega)), L, I, Q, ⟨S, P, D, D2, HX.out.keep hb⟩, HR.out⟩, a, n, c, _, rfl, Dk.OwnR.low hO HM.out.mv.size, ?_⟩
    refine (HX.out.domK HR.out).perm ?_
    exact ((HX.out.kd.ord_perm.flatMap_right Dk.Lf.es).map (·.1)).symm
  clear hb hO HK
  go_wp2
  go_ret
  exact HE.out
theorem Version_any (w : World) (B s x : Nat) (NM : List ByteArray) (A : Ab) (V : ByteArray → Int) (hS : Spc w B s x NM A V) (hv : Low V) (t : Int) (k : ByteArray) (hk : k.size ≤ maxLen) :
    Calls Tryz.prog 13 #[ptr s, .string k, .int .i64 t] w fun e w' => e = .returned (.int .u64 (dueV A V t k)) ∧ DueTo w w' B s x NM A V t := by
  have HT := takeDue_any w B s x NM A V hS hv t
  go_enter Tryz.func13, Tryz.ntmps13
  go_wp2_with fail
  refine HT.mono ?_
  rintro e w1 ⟨rfl, hm, L, I, Q, ⟨S, P, D, D2, hX⟩, hR⟩
  have HM : Hid (Mb stag B w w1) := hm
  have HX : Hid (Sx w1 B s x NM L I Q (dueV A V t) S P D D2) := hX
  have HR : Hid (Rep L I Q (dueA A t)) := hR
  have HG := Zs.Dk.GetD B S.v x D2 k w1 hX.vd hk
  rw [hX.vp k] at HG
  obtain ⟨n, HN⟩ : ∃ n, Hid (dueV A V t k = n) := ⟨_, rfl⟩
  rw [HN.out] at HG
  have c5 := hX.cv
  clear hX hR hm HT
  go_wp2_with fail
  refine HG.mono ?_
  rintro e w2 ⟨rfl, hb⟩
  have HE : Hid (DueTo w w2 B s x NM A V t) := ⟨HM.out.trans (Mb.of_below hb (by have := HX.out.lt; omega)), L, I, Q, ⟨S, P, D, D2, HX.out.keep hb⟩, HR.out⟩
  clear hb HG
  go_wp2
  go_ret
  exact ⟨by rw [HN.out]; rfl, HE.out⟩
/-- What Cycle leaves and tells. -/
def CycTo (w w' : World) (B s x : Nat) (NM : List ByteArray) (A : Ab) (V : ByteArray → Int) (n t : Int) (e : Ending) : Prop :=
  ∃ A' V' ks ks', ∃ c : Nat, e = .returned (.int .i64 c) ∧ To w w' B s x NM A' V' ∧ Due A A' V V' t ∧ Dom A ks ∧ Dom A' ks' ∧ ks'.length + c = ks.length ∧ ((c : Int) < n → Still A' t) ∧ (c = 0 ∨ (c : Int) ≤ n)
set_option maxRecDepth 100000 in
theorem Cycle_any (w : World) (B s x : Nat) (NM : List ByteArray) (A : Ab) (V : ByteArray → Int) (hS : Spc w B s x NM A V) (hv : Low V) (n t : Int) :
    Calls Tryz.prog 22 #[ptr s, .int .i64 n, .int .i64 t] w fun e w' => CycTo w w' B s x NM A V n t e := by
  obtain ⟨L, I, Q, hI, hR⟩ := hS
  have HI0 : Hid (In w B s x NM L I Q V) := hI
  have HR0 : Hid (Rep L I Q A) := hR
  have hfew : L.length ≤ 1000 := by obtain ⟨S, P, D, D2, hX⟩ := hI; exact hX.few
  clear hI hR
  go_enter Tryz.func22, Tryz.ntmps22
  go_wp2
  go_loopg [7] (L.length + 1) (fun gk cv wr => ∃ (c : Nat) (L' Q' : List Nat) (V' : ByteArray → Int) (A' : Ab), cv = .int .i64 c ∧ L'.length + 1 ≤ gk ∧ L'.length + c = L.length ∧ (c = 0 ∨ (c : Int) ≤ n) ∧ Hid (In wr B s x NM L' I Q' V') ∧ Hid (Rep L' I Q' A') ∧ Hid (Due A A' V V' t) ∧ Hid (Mb stag B w wr))
  case atStart => exact ⟨0, L, Q, V, A, rfl, Nat.le_refl _, rfl, .inl rfl, HI0, HR0, fun k => .inl ⟨rfl, rfl⟩, Mb.refl _ _ _⟩
  case round =>
    obtain ⟨c, L', Q', V', A', rfl, hg, hlc, hcn, HI, HR, HU, HM⟩ := hrel
    have HEnd : Hid (((c : Int) < n → Still A' t) → CycTo w wr B s x NM A V n t (.returned (.int .i64 c))) := fun hst => by
      obtain ⟨S, P, D, D2, hX⟩ := HI.out
      obtain ⟨S0, P0, D0, D20, hX0⟩ := HI0.out
      exact ⟨A', V', _, _, c, rfl, ⟨HM.out, L', I, Q', HI.out, HR.out⟩, HU.out, hX0.dom HR0.out, hX.dom HR.out, by rw [List.length_map, List.length_map]; exact hlc, hst, hcn⟩
    by_cases hc : (c : Int) < n
    · obtain ⟨S, P, D, D2, hX⟩ := HI.out
      have HX : Hid (Sx wr B s x NM L' I Q' V' S P D D2) := hX
      have HDu := isDue_any wr B s S L' I P Q' hX.qs t
      have hcd : decide ((c : Int) < n) = true := decide_eq_true hc
      clear hX
      go_wp2_with fail
      refine HDu.mono ?_
      rintro e wr ⟨rfl, r, rfl, hr⟩
      cases r with
      | true =>
        obtain ⟨h0, hu⟩ := hr.1 rfl
        obtain ⟨g, cp, hH⟩ := HX.out.qs.hs h0 Q'.length
        have HF := first_any wr B s S g cp L' I P Q' Q'.length hH h0 (by omega)
        have hpQ : at' Q' 0 ∈ Q' := at_mem h0
        obtain ⟨p, hpe⟩ : ∃ p, at' Q' 0 = p := ⟨_, rfl⟩
        rw [hpe] at HF hu hpQ
        have hpL := HX.out.qs.sub p hpQ
        have HT := take_any wr B s x NM L' I Q' V' HI.out p hpL (fun k => by have := HU.out.le k; have := hv k; omega)
        have HUU : Hid ((I p).u ≤ t) := hu
        have hln : (L'.erase p).length + 1 = L'.length := by
          have := List.length_erase_of_mem hpL
          have := List.length_pos_of_mem hpL
          omega
        clear hH hr hu HDu
        go_wp2_with fail
        refine HF.mono ?_
        rintro e wr ⟨rfl, rfl⟩
        go_wp2_with fail
        refine HT.mono ?_
        rintro e w2 ⟨rfl, hm2, Q2, hin2, hmem⟩
        have HIn : Hid (In w2 B s x NM (L'.erase p) I Q2 (incV V' (I p).k)) := hin2
        have HR2 : Hid (Rep (L'.erase p) I Q2 (setA A' (I p).k none)) := HR.out.del HI.out.inj HI.out.nod hpL hmem
        have HU2 : Hid (Due A (setA A' (I p).k none) V (incV V' (I p).k) t) := HU.out.step (by rw [HR.out.yes p hpL, if_pos hpQ]) HUU.out
        have HM2 : Hid (Mb stag B w w2) := HM.out.trans hm2
        clear hm2 hin2 hmem HT HF
        go_wp2
        go_roundg (gk - 1)
        case measure => omega
        case rel => exact ⟨c + 1, _, Q2, _, _, by go_num, by omega, by omega, .inr (by omega), HIn, HR2, HU2, HM2⟩
      | false =>
        have hd : ¬ (0 < Q'.length ∧ (I (at' Q' 0)).u ≤ t) := fun h => by have := hr.2 h; cases this
        have HE : Hid (CycTo w wr B s x NM A V n t (.returned (.int .i64 c))) := HEnd.out fun _ => still_of HR.out rfl HX.out.qs.ord hd
        clear hd hr HDu
        go_wp2
        go_ret
        exact HE.out
    · have hcd : decide ((c : Int) < n) = false := decide_eq_false hc
      have HE : Hid (CycTo w wr B s x NM A V n t (.returned (.int .i64 c))) := HEnd.out fun h => absurd h hc
      go_wp2
      go_ret
      exact HE.out
/-- What Scan tells. -/
def ScanR (w w' : World) (x : Nat) (A : Ab) (c : Nat) (count : Int) (e : Ending) : Prop :=
  ∃ a n cp g ks, e = .returned (.tuple #[.slice a n cp, .int .u64 ((Dk.scanP x g ks (Dk.cntC count) (10 * Dk.cntC count) [] c).2 : Nat)]) ∧ OwnS w' w.heap.size a n cp (Dk.scanP x g ks (Dk.cntC count) (10 * Dk.cntC count) [] c).1 ∧ Dom A ks ∧ ks.length ≤ 1000
theorem Scan_any (w : World) (B s x : Nat) (NM : List ByteArray) (A : Ab) (V : ByteArray → Int) (hS : Spc w B s x NM A V) (hv : Low V) (c : Nat) (count t : Int) (hc : c < 18446744073709551616) :
    Calls Tryz.prog 28 #[ptr s, .int .u64 c, .int .i64 count, .int .i64 t] w fun e w' => DueTo w w' B s x NM A V t ∧ ScanR w w' x (dueA A t) c count e := by
  have HT := takeDue_any w B s x NM A V hS hv t
  go_enter Tryz.func28, Tryz.ntmps28
  go_wp2_with fail
  refine HT.mono ?_
  rintro e w1 ⟨rfl, hm, L, I, Q, ⟨S, P, D, D2, hX⟩, hR⟩
  have HM : Hid (Mb stag B w w1) := hm
  have HX : Hid (Sx w1 B s x NM L I Q (dueV A V t) S P D D2) := hX
  have HR : Hid (Rep L I Q (dueA A t)) := hR
  have HK := Dk.Scan_dict B S.d x D c count w1 hX.kd hc
  have c3 := hX.cd
  clear hX hR hm HT
  obtain ⟨sp, HSP⟩ : ∃ sp, Hid (Dk.scanP x D.g (Dk.keysOf D.es) (Dk.cntC count) (10 * Dk.cntC count) [] c = sp) := ⟨_, rfl⟩
  rw [HSP.out] at HK
  go_wp2_with fail
  refine HK.mono ?_
  rintro e w2 ⟨hb, a, n, cp, rfl, hO⟩
  have HE : Hid (DueTo w w2 B s x NM A V t ∧ ScanR w w2 x (dueA A t) c count (.returned (.tuple #[.slice a n cp, .int .u64 (sp.2 : Nat)]))) := by
    refine ⟨⟨HM.out.trans (Mb.of_below hb (by have := HX.out.lt; omega)), L, I, Q, ⟨S, P, D, D2, HX.out.keep hb⟩, HR.out⟩, a, n, cp, D.g, Dk.keysOf D.es, ?_, ?_, HX.out.domK HR.out, ?_⟩
    · rw [HSP.out]
    · rw [HSP.out]; exact Dk.OwnR.low hO HM.out.mv.size
    · have h1 := HX.out.len
      have h2 := HX.out.few
      rw [List.length_map]
      omega
  clear hb hO HK
  go_wp2
  go_ret2
  exact HE.out
/-- A value that is a text. -/
structure Vt (w : World) (v : Nat) (t : ByteArray) : Prop where
  blk : w.heap[v]? = some (.cells #[.int .i64 1, .string t, .pointer none, .pointer none, .pointer none] 74 (0, 0))
theorem Vt.lt {w : World} {v : Nat} {t : ByteArray} (h : Vt w v t) : v < w.heap.size := (Array.getElem?_eq_some_iff.1 h.blk).1
theorem Vt.keep {w w' : World} {v : Nat} {t : ByteArray} (h : Vt w v t) (hb : Below w.heap.size w w') : Vt w' v t := ⟨by rw [hb.block v h.lt]; exact h.blk⟩
theorem Vt.mb {w w' : World} {B v : Nat} {t : ByteArray} (h : Vt w v t) (hb : Mb stag B w w') : Vt w' v t := ⟨by rw [hb.mv.block v _ _ h.blk (by decide)]; exact h.blk⟩
theorem Vt.ck {w : World} {v : Nat} {t : ByteArray} (h : Vt w v t) : w.cell? ⟨v, 0, none⟩ = some (.int .i64 1) := by simp [World.cell?, h.blk]
theorem Vt.ct {w : World} {v : Nat} {t : ByteArray} (h : Vt w v t) : w.cell? ⟨v, 1, none⟩ = some (.string t) := by simp [World.cell?, h.blk]
theorem OfText_t (s : ByteArray) (w : World) : Calls Tryz.prog 11 #[.string s] w fun e w' => Below w.heap.size w w' ∧ ∃ v, e = .returned (ptr v) ∧ Vt w' v s := by
  obtain ⟨wn, hwn⟩ : ∃ wn, w.alloc (.cells #[.int .i64 1, .string s, .pointer none, .pointer none, .pointer none] 74) = wn := ⟨_, rfl⟩
  have HB : Hid (Below w.heap.size w wn ∧ Vt wn w.heap.size s) := by rw [← hwn]; exact ⟨alloc_below w _, ⟨heap_alloc_new w _⟩⟩
  go_enter Tryz.func11, Tryz.ntmps11
  go_wp2
  go_ret
  exact ⟨HB.out.1, _, rfl, HB.out.2⟩
theorem kind_t (w : World) (v : Nat) (t : ByteArray) (h : Vt w v t) : Calls Tryz.prog 81 #[ptr v] w fun e w' => e = .returned (.int .i64 1) ∧ w' = w := by
  have h1 := h.ck
  clear h
  go_enter Tryz.func81, Tryz.ntmps81
  go_wp2
  go_ret
  exact ⟨rfl, rfl⟩
theorem Empty_t (w : World) (v : Nat) (t : ByteArray) (h : Vt w v t) : Calls Tryz.prog 36 #[ptr v] w fun e w' => e = .returned (.bool false) ∧ Below w.heap.size w w' := by
  have HK := kind_t w v t h
  clear h
  go_enter Tryz.func36, Tryz.ntmps36
  go_wp2_with fail
  refine HK.mono ?_
  rintro e w ⟨rfl, rfl⟩
  go_wp2
  go_ret
  exact ⟨rfl, Below.refl _ _⟩
/-- No number is greater than this. -/
def Vle (V : ByteArray → Int) (b : Int) : Prop := ∀ k, 0 ≤ V k ∧ V k ≤ b
theorem Vle.low {V : ByteArray → Int} {b : Int} (h : Vle V b) (hb : b ≤ 1000000) : Low V := fun k => by have := h k; omega
theorem Vle.zero : Vle (fun _ => 0) 0 := fun _ => ⟨Int.le_refl _, Int.le_refl _⟩
theorem Vle.inc {V : ByteArray → Int} {b : Int} (h : Vle V b) (k : ByteArray) : Vle (incV V k) (b + 1) := fun j => by have := h j; have := incV_le V k j; omega
theorem Vle.chg {V : ByteArray → Int} {b : Int} (h : Vle V b) (A : Ab) (k : ByteArray) : Vle (chgV A V k) (b + 1) := by
  unfold chgV
  split
  · exact h.inc k
  · exact fun j => by have := h j; omega
theorem Vle.due {V : ByteArray → Int} {b : Int} (h : Vle V b) (A : Ab) (t : Int) : Vle (dueV A V t) (b + 1) := fun j => by have := h j; have := dueV_le A V t j; omega
theorem Vle.ren {V : ByteArray → Int} {b : Int} (h : Vle V b) (A : Ab) (k j : ByteArray) : Vle (renV A V k j) (b + 2) := by
  unfold renV
  split
  · split
    · exact fun i => by have := h.inc k i; omega
    · exact fun i => by have := (h.inc k).inc j i; omega
  · exact fun i => by have := h i; omega
theorem Vle.mono {V : ByteArray → Int} {b c : Int} (h : Vle V b) (hb : b ≤ c) : Vle V c := fun j => by have := h j; omega
/-- Nothing is there; one key alone. -/
abbrev none' : Ab := fun _ => none
def one (k : ByteArray) (y : Option Addr × Option Int) : Ab := setA none' k (some y)
theorem none_still (t : Int) : Still none' t := fun k v e h => by cases h
theorem none_due (t : Int) : dueA none' t = none' := (none_still t).due
theorem one_at (k : ByteArray) (y : Option Addr × Option Int) : one k y k = some y := setA_at _ _ _
theorem one_set (k : ByteArray) (y : Option Addr × Option Int) (z : Option (Option Addr × Option Int)) : setA (one k y) k z = setA none' k z := setA_twice _ _ _ _
theorem none_set (k : ByteArray) : setA none' k none = none' := setA_self rfl
theorem one_none (k : ByteArray) (v : Option Addr) (t : Int) : Still (one k (v, none)) t := fun j u e h => by
  unfold one setA at h
  split at h
  · cases h
  · cases h
theorem one_still {k : ByteArray} {v : Option Addr} {u t : Int} (h : t < u) : Still (one k (v, some u)) t := fun j v' e h' => by
  unfold one setA at h'
  split at h'
  · injection h' with h'
    injection h' with _ h'
    injection h' with h'
    omega
  · cases h'
theorem one_gone {k : ByteArray} {v : Option Addr} {u t : Int} (h : u ≤ t) : dueA (one k (v, some u)) t = none' := by
  funext j
  unfold dueA one setA
  by_cases e : j = k
  · simp [e, h]
  · simp [e]
theorem one_exp {k : ByteArray} {v : Option Addr} {q : Option Int} {u t : Int} (h : t < u) : expA (one k (v, q)) k u t = one k (v, some u) := by
  unfold expA
  rw [one_at]
  simp only [if_neg (Int.not_le.2 h)]
  exact one_set _ _ _
theorem one_ren (a b : ByteArray) (y : Option Addr × Option Int) : renA (one a y) a b = one b y := by
  unfold renA
  rw [one_at]
  simp only [Option.isSome_some, if_true]
  by_cases h : a = b
  · rw [if_pos h, h]
  · rw [if_neg h, one_set, none_set]
    rfl
theorem one_dom (k : ByteArray) (y : Option Addr × Option Int) : Dom (one k y) [k] := ⟨by simp, fun j => by
  unfold one setA
  by_cases h : j = k
  · simp [h]
  · simp [h]⟩
theorem none_dom : Dom none' [] := ⟨List.nodup_nil, fun j => by simp⟩
theorem LenR.of {e : Ending} {A : Ab} {ks : List ByteArray} (h : LenR e A) (hd : Dom A ks) : e = .returned (.int .i64 (ks.length : Nat)) := by
  obtain ⟨js, h1, rfl⟩ := h
  rw [(h1.same hd).length_eq]
theorem To.keepV {w w' : World} {B s x : Nat} {NM : List ByteArray} {A : Ab} {V : ByteArray → Int} {t : Int} (hs : Still A t) (h : DueTo w w' B s x NM A V t) : To w w' B s x NM A V := by
  have h1 : To w w' B s x NM (dueA A t) (dueV A V t) := h
  rw [hs.due, hs.dueV] at h1
  exact h1
theorem Spc.lt {w : World} {B s x : Nat} {NM : List ByteArray} {A : Ab} {V : ByteArray → Int} (h : Spc w B s x NM A V) : B ≤ w.heap.size := by
  obtain ⟨L, I, Q, ⟨S, P, D, D2, hX⟩, -⟩ := h
  have := hX.lt
  omega
theorem eqlS_nil (w : World) (l : Nat) : (binOp .eql 25 (ptr l) (.pointer none)).run Tryz.prog w = .ok (.bool false) w := by
  rw [run_eql_pointer_nil w 25 (some ⟨l, 0, none⟩) (by rw [Tryz.underlying25]; kernel_rfl)]; rfl
theorem eqlV_nil (w : World) (l : Nat) : (binOp .eql 35 (ptr l) (.pointer none)).run Tryz.prog w = .ok (.bool false) w := by
  rw [run_eql_pointer_nil w 35 (some ⟨l, 0, none⟩) (by rw [Tryz.underlying35]; kernel_rfl)]; rfl
theorem neqV_nil (w : World) (l : Nat) : (binOp .neq 35 (ptr l) (.pointer none)).run Tryz.prog w = .ok (.bool true) w := by
  rw [run_neq_pointer_nil w 35 (some ⟨l, 0, none⟩) (by rw [Tryz.underlying35]; kernel_rfl)]; rfl
/-- From B on alone. -/
theorem Mb.step {w w1 w2 : World} {p : TypeId → Bool} {B : Nat} (h : Hid (Below w.heap.size w w1)) (hm : Mb p B w1 w2) (hB : w.heap.size ≤ B) : Hid (Below w.heap.size w w2) := h.out.trans (hm.be.mono hB)
def kNM : List ByteArray := [⟨#[97]⟩, ⟨#[120]⟩, ⟨#[121]⟩]
theorem kNM_names : Names kNM := ⟨by decide, by decide⟩
set_option maxRecDepth 100000 in
theorem known_any (w : World) : Calls Tryz.prog 19 #[] w fun e w' => e = .returned (.bool true) ∧ Below w.heap.size w w' := by
  have HN := New_any w 1 0 0 (by decide)
  replace HN : Calls Tryz.prog 9 #[.agg #[.int .u64 1, .int .i64 0, .int .i64 0]] w fun e w' => NewTo w w' 1 e := HN
  go_enter Tryz.func19, Tryz.ntmps19
  go_wp2_with fail
  refine HN.mono ?_
  rintro e w1 ⟨hb1, s, rfl, -, hs⟩
  have HB1 : Hid (Below w.heap.size w w1) := hb1
  have HS1 : Hid (Spc w1 w.heap.size s 1 kNM none' (fun _ => 0)) := hs kNM kNM_names
  have hq := eqlS_nil w1 s
  have HO := OfText_t ⟨#[49]⟩ w1
  clear hb1 hs HN
  go_wp2_with fail
  refine HO.mono ?_
  rintro e w2 ⟨hb2, v, rfl, hv⟩
  have HB2 := step_below HB1 hb2
  have HV2 : Hid (Vt w2 v ⟨#[49]⟩) := hv
  have HP := Put_any w2 w.heap.size s 1 kNM none' _ (HS1.out.keep hb2) (Vle.zero.low (by decide)) 0 ⟨#[97]⟩ (by simp [kNM]) (by decide) (some ⟨v, 0, none⟩) (Empty_t w2 v _ hv)
  clear hb2 hv hq HO
  go_wp2_with fail
  refine HP.mono ?_
  rintro e w3 ⟨rfl, hm3, hs3⟩
  have HB3 := HB2.out.trans hm3.be
  have HB3' : Hid (Below w.heap.size w w3) := HB3
  have HV3 : Hid (Vt w3 v ⟨#[49]⟩) := HV2.out.mb hm3
  rw [none_due] at hs3
  obtain ⟨V3, HV3'⟩ : ∃ V3, Hid (Spc w3 w.heap.size s 1 kNM (one ⟨#[97]⟩ (some ⟨v, 0, none⟩, none)) V3 ∧ Vle V3 5) := ⟨_, hs3, ((Vle.zero.due _ _).inc _).mono (by decide)⟩
  have HE := Expire_any w3 w.heap.size s 1 kNM _ V3 HV3'.out.1 (HV3'.out.2.low (by decide)) 5 0 ⟨#[97]⟩ (by simp [kNM]) (by decide)
  rw [(one_none _ _ _).due, one_at] at HE
  clear hm3 hs3 HP HB3
  go_wp2_with fail
  refine HE.mono ?_
  rintro e w4 ⟨rfl, hm4, hs4⟩
  rw [one_exp (by decide)] at hs4
  have HB4 := Mb.step HB3' hm4 (Nat.le_refl _)
  obtain ⟨V4, HS4⟩ : ∃ V4, Hid (Spc w4 w.heap.size s 1 kNM (one ⟨#[97]⟩ (some ⟨v, 0, none⟩, some 5)) V4 ∧ Vle V4 10) := ⟨_, hs4, ((HV3'.out.2.due _ _).chg _ _).mono (by decide)⟩
  have HG := Get_any w4 w.heap.size s 1 kNM _ V4 HS4.out.1 (HS4.out.2.low (by decide)) 4 ⟨#[97]⟩ (by decide)
  rw [(one_still (by decide)).due, one_at] at HG
  replace HG : Calls Tryz.prog 17 #[ptr s, .string ⟨#[97]⟩, .int .i64 4] w4 fun e w' => e = .returned (ptr v) ∧ DueTo w4 w' w.heap.size s 1 kNM (one ⟨#[97]⟩ (some ⟨v, 0, none⟩, some 5)) V4 4 := HG
  clear hm4 hs4 HE
  go_wp2_with fail
  refine HG.mono ?_
  rintro e w5 ⟨rfl, hd5⟩
  have ht5 := To.keepV (one_still (by decide)) hd5
  have HB5 := Mb.step HB4 ht5.mb (Nat.le_refl _)
  have HS5 : Hid (Spc w5 w.heap.size s 1 kNM (one ⟨#[97]⟩ (some ⟨v, 0, none⟩, some 5)) V4) := ht5.spc
  have hn5 := neqV_nil w5 v
  have HG5 := Get_any w5 w.heap.size s 1 kNM _ V4 HS5.out (HS4.out.2.low (by decide)) 5 ⟨#[97]⟩ (by decide)
  rw [one_gone (by decide)] at HG5
  replace HG5 : Calls Tryz.prog 17 #[ptr s, .string ⟨#[97]⟩, .int .i64 5] w5 fun e w' => e = .returned (.pointer none) ∧ DueTo w5 w' w.heap.size s 1 kNM (one ⟨#[97]⟩ (some ⟨v, 0, none⟩, some 5)) V4 5 := HG5
  clear hd5 ht5 HG
  go_wp2_with fail
  refine HG5.mono ?_
  rintro e w6 ⟨rfl, hm6, hs6⟩
  rw [one_gone (by decide)] at hs6
  have HB6 := Mb.step HB5 hm6 (Nat.le_refl _)
  obtain ⟨V6, HS6⟩ : ∃ V6, Hid (Spc w6 w.heap.size s 1 kNM none' V6 ∧ Vle V6 20) := ⟨_, hs6, (HS4.out.2.due _ _).mono (by decide)⟩
  have HL := Len_any w6 w.heap.size s 1 kNM none' V6 HS6.out.1 (HS6.out.2.low (by decide)) 5
  clear hm6 hs6 HG5 hn5
  go_wp2_with fail
  refine HL.mono ?_
  rintro e w7 ⟨hd7, hl7⟩
  rw [none_due] at hl7
  have he := hl7.of none_dom
  replace he : e = .returned (.int .i64 0) := he
  subst he
  have ht7 := To.keepV (none_still 5) hd7
  have HB7 := Mb.step HB6 ht7.mb (Nat.le_refl _)
  have HS7 : Hid (Spc w7 w.heap.size s 1 kNM none' V6) := ht7.spc
  have HR := Rename_any w7 w.heap.size s 1 kNM none' V6 HS7.out (HS6.out.2.low (by decide)) 6 ⟨#[120]⟩ ⟨#[121]⟩ (by simp [kNM]) (by decide) (by simp [kNM]) (by decide)
  rw [none_due] at HR
  replace HR : Calls Tryz.prog 16 #[ptr s, .string ⟨#[120]⟩, .string ⟨#[121]⟩, .int .i64 6] w7 fun e w' => e = .returned (.bool false) ∧ RenTo w7 w' w.heap.size s 1 kNM none' (dueV none' V6 6) ⟨#[120]⟩ ⟨#[121]⟩ := HR
  clear hd7 ht7 hl7 HL
  go_wp2_with fail
  refine HR.mono ?_
  rintro e w8 ⟨rfl, hm8, -⟩
  have HB8 := Mb.step HB7 hm8 (Nat.le_refl _)
  clear hm8 HR
  go_wp2
  go_ret
  exact ⟨rfl, HB8.out⟩
/-- The name by a letter. -/
def nmA (d : Nat) : ByteArray := (⟨#[107]⟩ : ByteArray) ++ Utf8.encode (97 + (d : Int))
theorem nmA_size (d : Nat) : (nmA d).size ≤ 5 := by
  have := Dk.encode_size (97 + (d : Int))
  unfold nmA
  rw [ByteArray.size_append]
  have h : (⟨#[107]⟩ : ByteArray).size = 1 := rfl
  omega
theorem name_any (z : Int) (w : World) : Calls Tryz.prog 31 #[.int .i64 z] w fun e w' => w' = w ∧ ∃ d, d < 7 ∧ e = .returned (.string (nmA d)) := by
  have HW := Dk.Within_any z 0 1048576 w (by decide) (by decide) (by decide)
  go_enter Tryz.func31, Tryz.ntmps31
  go_wp2_with fail
  refine HW.mono ?_
  rintro e w ⟨rfl, q, hq1, hq2, rfl⟩
  obtain ⟨m, rfl⟩ : ∃ m : Nat, q = (m : Nat) := ⟨q.toNat, by omega⟩
  have hmod : ((m : Int)).tmod 7 = ((m % 7 : Nat) : Int) := by rw [Int.tmod_eq_emod_of_nonneg (by omega)]; omega
  have hr : m % 7 < 7 := Nat.mod_lt _ (by decide)
  generalize m % 7 = d at hmod hr
  obtain ⟨en, hen⟩ : ∃ en, Utf8.encode (97 + (d : Int)) = en := ⟨_, rfl⟩
  have hes : en.size ≤ 4 := by rw [← hen]; exact Dk.encode_size _
  have HN : Hid (nmA d = (⟨#[107]⟩ : ByteArray) ++ en) := by show _ = _; rw [← hen]; rfl
  have HR : Hid (d < 7) := hr
  clear HW
  go_wp2
  go_ret
  exact ⟨rfl, d, HR.out, by rw [HN.out]; rfl⟩
/-- A row of calls that is read alone. -/
structure RdK (w : World) (a : Option Addr) (n : Nat) : Prop where
  le : n ≤ maxLen
  elem : ∀ i, i < n → ∃ b off kind A B N T S, a = some ⟨b, off, none⟩ ∧ w.cell? ⟨b, off + i * 6, none⟩ = some (.int .i64 kind) ∧ w.cell? ⟨b, off + i * 6 + 1, none⟩ = some (.int .i64 A) ∧ w.cell? ⟨b, off + i * 6 + 2, none⟩ = some (.int .i64 B) ∧ w.cell? ⟨b, off + i * 6 + 3, none⟩ = some (.int .i64 N) ∧ w.cell? ⟨b, off + i * 6 + 4, none⟩ = some (.int .i64 T) ∧ w.cell? ⟨b, off + i * 6 + 5, none⟩ = some (.string S)
theorem RdK.keep {w wn : World} {a : Option Addr} {n : Nat} (h : RdK w a n) (hb : Below w.heap.size w wn) : RdK wn a n := by
  refine ⟨h.le, fun i hi => ?_⟩
  obtain ⟨b, off, kind, A, B, N, T, S, e, h0, h1, h2, h3, h4, h5⟩ := h.elem i hi
  have hk : ∀ j v, w.cell? ⟨b, j, none⟩ = some v → wn.cell? ⟨b, j, none⟩ = some v := fun j v hv => by rw [hb.cell (p := ⟨b, j, none⟩) (World.block_lt_of_cell? _ _ hv)]; exact hv
  exact ⟨b, off, kind, A, B, N, T, S, e, hk _ _ h0, hk _ _ h1, hk _ _ h2, hk _ _ h3, hk _ _ h4, hk _ _ h5⟩
end Go.Proofs.YtmjeljldmmkcpaaGreat.Sq
