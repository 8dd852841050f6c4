/- Texts that the others stand on. -/
import Derived.Test.YtmjeljldmmkcpaaGreatK28
import Derived.Deep.RegionHeld3
namespace Go.Proofs.YtmjeljldmmkcpaaGreat.Sq
open Go.RowKit Go.PlainAid
open Dk (ptr Aa Ac Ad Af OwnR OwnP OwnS Mv An Elt A4)
theorem setA_twice {α : Type} (A : AbV α) (k : ByteArray) (y z : Option (α × Option Int)) : setA (setA A k y) k z = setA A k z := by
 funext j
 unfold setA
 by_cases h : j = k
 ·rw [if_pos h, if_pos h]
 ·rw [if_neg h, if_neg h, if_neg h]
theorem setA_self {α : Type} {A : AbV α} {k : ByteArray} {y : Option (α × Option Int)} (h : A k = y) : setA A k y = A := by
 funext j
 unfold setA
 by_cases e : j = k
 ·rw [if_pos e, e, h]
 ·rw [if_neg e]
theorem B0 {α : Type} (A : AbV α) (k : ByteArray) (y : Option (α × Option Int)) : setA A k y k = y := if_pos rfl
theorem Ck {α : Type} (A : AbV α) {k j : ByteArray} (y : Option (α × Option Int)) (h : j ≠ k) : setA A k y j = A j := if_neg h
theorem Rep.turn {L : List Nat} {I J : Nat → Itm} {Q Q' : List Nat} {A : Ab} (h : Rep L I Q A) (hinj : ∀ q ∈ L, ∀ r ∈ L, (I q).k = (I r).k → q = r) {p : Nat} (hp : p ∈ L) (hk : (J p).k = (I p).k) (hJ : ∀ q, q ≠ p → J q = I q) (hm : ∀ q, q ≠ p → (q ∈ Q' ↔ q ∈ Q)) : Rep L J Q' (setA A (I p).k (some ((J p).v, if p ∈ Q' then some (J p).u else none))) := by
 constructor
 ·intro q hq
  by_cases e : q = p
  ·rw [e, hk, B0]
  ·rw [hJ q e, Ck _ _ (fun e2 => e (hinj q hq p hp e2)), h.yes q hq]
   by_cases hQ : q ∈ Q
   ·rw [if_pos hQ, if_pos ((hm q e).2 hQ)]
   ·rw [if_neg hQ, if_neg (fun e2 => hQ ((hm q e).1 e2))]
 ·intro k y hy
  by_cases e : k = (I p).k
  ·exact ⟨p, hp, by rw [hk, e]⟩
  ·rw [Ck _ _ e] at hy
   obtain ⟨q, hq, rfl⟩ := h.no k y hy
   exact ⟨q, hq, by rw [hJ q (fun e2 => e (by rw [e2]))]⟩
theorem Rep.new {L : List Nat} {I : Nat → Itm} {Q : List Nat} {A : Ab} (h : Rep L I Q A) {p : Nat} {i : Itm} (hp : p ∉ L) (hq : p ∉ Q) (hn : ∀ q ∈ L, (I q).k ≠ i.k) : Rep (p :: L) (upd I p i) Q (setA A i.k (some (i.v, none))) := by
 constructor
 ·intro q hq'
  rcases List.mem_cons.1 hq' with rfl | h1
  ·rw [Bq, B0, if_neg hq]
  ·have e : q ≠ p := fun e => hp (by rw [← e]; exact h1)
   rw [Bl _ _ e, Ck _ _ (hn q h1)]
   exact h.yes q h1
 ·intro k y hy
  by_cases e : k = i.k
  ·exact ⟨p, List.mem_cons_self .., by rw [Bq, e]⟩
  ·rw [Ck _ _ e] at hy
   obtain ⟨q, hq', rfl⟩ := h.no k y hy
   exact ⟨q, List.mem_cons_of_mem _ hq', by rw [Bl _ _ (fun e => hp (by rw [← e]; exact hq'))]⟩
def HoldTo (w w' : World) (B s x : Nat) (NM : List ByteArray) (A : Ab) (V : ByteArray → Int) (k : ByteArray) (v : Option Addr) (e : Ending) : Prop :=
 Mb stag B w w' ∧ ∃ L I Q, In w' B s x NM L I Q (incV V k) ∧ Rep L I Q (setA A k (some (v, none))) ∧ ∃ p, e = .returned (ptr p) ∧ p ∈ L ∧ p ∉ Q ∧ (I p).k = k ∧ (I p).v = v
def HoldIn (w w' : World) (B s x : Nat) (NM : List ByteArray) (A : Ab) (V : ByteArray → Int) (k : ByteArray) (v : Option Addr) (L0 : List Nat) (I0 : Nat → Itm) (e : Ending) : Prop :=
 Mb stag B w w' ∧ ∃ L I Q, In w' B s x NM L I Q (incV V k) ∧ Rep L I Q (setA A k (some (v, none))) ∧ (∀ q ∈ L0, (I0 q).k ≠ k → q ∈ L ∧ I q = I0 q) ∧ ∃ p, e = .returned (ptr p) ∧ p ∈ L ∧ p ∉ Q ∧ (I p).k = k ∧ (I p).v = v
structure Ere (w w' : World) (B s x : Nat) (NM : List ByteArray) (A : Ab) (V : ByteArray → Int) (k : ByteArray) (L0 : List Nat) (I0 : Nat → Itm) (p : Nat) (L : List Nat) (I : Nat → Itm) (Q : List Nat) (A1 : Ab) : Prop where
 mb : Mb stag B w w'
 inn : In w' B s x NM L I Q V
 rep : Rep L I Q A1
 mem : p ∈ L
 key : (I p).k = k
 set : ∀ y, setA A1 k y = setA A k y
 old : ∀ q ∈ L0, q ∈ L ∧ I q = I0 q
set_option maxRecDepth 100000 in
theorem hold_in (w : World) (B s x : Nat) (NM : List ByteArray) (L : List Nat) (I : Nat → Itm) (Q : List Nat) (A : Ab) (V : ByteArray → Int) (hI : In w B s x NM L I Q V) (hR : Rep L I Q A) (k : ByteArray) (hk : k ∈ NM) (hv : 0 ≤ V k ∧ V k < 4611686018427387904) (v : Option Addr) :
  Calls Tryz.prog 38 #[ptr s, .string k, .pointer v] w fun e w' => HoldIn w w' B s x NM A V k v L I e := by
 obtain ⟨S, P, D, D2, hX⟩ := hI
 have HX : Hid (Sx w B s x NM L I Q V S P D D2) := hX
 have HR : Hid (Rep L I Q A) := hR
 have c3 := hX.cd
 have HG := Dk.GetD B S.d x D k w hX.kd (hX.mx hk)
 clear hX hR
 obtain ⟨r, HRr⟩ : ∃ r : Option Addr, Hid (Dk.getE D.es k = r) := ⟨_, rfl⟩
 rw [HRr.out] at HG
 obtain ⟨q, HQq⟩ : ∃ q : Bool, Hid (Dk.hasK D.es k = q) := ⟨_, rfl⟩
 rw [HQq.out] at HG
 go_enter Tryz.func38, Tryz.ntmps38
 go_wp2_with fail
 refine HG.mono ?_
 rintro e w1 ⟨rfl, hb⟩
 have HX1 : Hid (Sx w1 B s x NM L I Q V S P D D2) := HX.out.keep hb
 have HM1 : Hid (Mb stag B w w1) := Mb.of_below hb (by have := HX.out.lt; omega)
 clear hb HG c3
 go_upto_if 19 with fail
 go_cut [7] from 20 to 28 (fun y wx => ∃ p, y = ptr p ∧ ∃ L1 I1 A1, Hid (Ere w wx B s x NM A V k L I p L1 I1 Q A1))
 case first =>
  cases q with
  | true =>
   have hex : ∃ p ∈ L, (I p).k = k := by
    refine Classical.byContradiction fun h => ?_
    have h1 := (HX.out.lacks (k := k) (fun p hp e => h ⟨p, hp, e⟩)).2
    rw [HQq.out] at h1
    cases h1
   obtain ⟨p, hp, hpk⟩ := hex
   have hr : r = adr p := by
    have h1 := (HX.out.found hp).1
    rw [hpk, HRr.out] at h1
    exact h1
   subst hr
   have HE : Hid (Ere w w1 B s x NM A V k L I p L I Q A) := ⟨HM1.out, ⟨S, P, D, D2, HX1.out⟩, HR.out, hp, hpk, fun _ => rfl, fun q hq => ⟨hq, rfl⟩⟩
   go_wp2
   go_meet
   exact ⟨p, rfl, L, I, A, HE⟩
  | false =>
   have hno : ∀ p ∈ L, (I p).k ≠ k := fun p hp e => by
    have h1 := (HX.out.found hp).2
    rw [e, HQq.out] at h1
    cases h1
   have HN := newItem_any w1 k
   go_wp2_with fail
   refine HN.mono ?_
   rintro e w2 ⟨rfl, hw2⟩
   have hb2 : Below w1.heap.size w1 w2 := by rw [hw2]; exact Ac w1 _
   obtain ⟨hq2, hpL⟩ := HX1.out.qs.more ⟨k, none, 0⟩ (by have := HX1.out.few; omega) hw2
   obtain ⟨p, hpe⟩ : ∃ p, w1.heap.size = p := ⟨_, rfl⟩
   rw [hpe] at hq2 hpL
   have HQ2 : Hid (Qs w2 B s S (p :: L) (upd I p ⟨k, none, 0⟩) (upd P p (-1)) Q) := hq2
   have HB2 : Hid (Below w1.heap.size w1 w2) := hb2
   have HPL : Hid (p ∉ L) := hpL
   have HP := Dk.PutD B S.d x D k (adr p) w2 (HX1.out.kd.keep hb2) (HX1.out.mx hk) (by have := HX1.out.len; have := HX1.out.few; omega)
   have c3 := (HX1.out.keep hb2).cd
   have HNo : Hid (∀ p ∈ L, (I p).k ≠ k) := hno
   rw [hpe]
   clear hw2 hb2 hq2 hpL HN hno hpe
   go_wp2_with fail
   refine HP.mono ?_
   rintro e w3 ⟨rfl, D', hT, hd⟩
   have HE : Hid (Ere w w3 B s x NM A V k L I p (p :: L) (upd I p ⟨k, none, 0⟩) Q (setA A k (some (none, none)))) := by
    obtain ⟨k1, k2⟩ := HX1.out.put HB2.out HQ2.out HPL.out hT (i := ⟨k, none, 0⟩) hk HNo.out hd
    exact ⟨HM1.out.trans k2, ⟨S, _, D', D2, k1⟩, HR.out.new (i := ⟨k, none, 0⟩) HPL.out (fun h => HPL.out (HX.out.qs.sub _ h)) HNo.out, List.mem_cons_self .., by rw [Bq], fun y => setA_twice _ _ _ _, fun q hq => ⟨List.mem_cons_of_mem _ hq, Bl _ _ (fun e => HPL.out (by rw [← e]; exact hq))⟩⟩
   clear hT hd HP c3
   go_wp2
   go_meet
   exact ⟨p, rfl, _, _, _, HE⟩
 case rest =>
  obtain ⟨p, rfl, L1, I1, A1, HE⟩ := hcut
  clear HX HX1 HR HM1
  obtain ⟨S1, P1, D1, D3, hX⟩ := HE.out.inn
  have HX : Hid (Sx wc B s x NM L1 I1 Q V S1 P1 D1 D3) := hX
  have HD := drop_any wc B s S1 L1 I1 P1 Q hX.qs p HE.out.mem
  clear hX
  go_wp2_with fail
  refine HD.mono ?_
  rintro e w2 ⟨rfl, hm2, P2, Q2, hq2, hmem⟩
  have HX2 : Hid (Sx w2 B s x NM L1 I1 Q2 V S1 P2 D1 D3) := HX.out.queue hm2 hq2 (fun _ _ => rfl)
  have HM2 : Hid (Mb stag B w w2) := HE.out.mb.trans (Mb.mono hm2 stag_q)
  have HMem : Hid (∀ q, q ∈ Q2 ↔ q ≠ p ∧ q ∈ Q) := hmem
  have e1 := hq2.its.cv HE.out.mem
  have e2 := hq2.its.fz HE.out.mem 1
  obtain ⟨w3, hw3⟩ : ∃ w3, w2.setCell ⟨p, 1, none⟩ (.pointer v) = w3 := ⟨_, rfl⟩
  obtain ⟨hq3, hm3⟩ := hq2.value HE.out.mem v hw3.symm
  have HI3 : Hid (In w3 B s x NM L1 (upd I1 p { I1 p with v := v }) Q2 V) := ⟨S1, P2, D1, D3, HX2.out.queue hm3 hq3 (fun q _ => by
   by_cases h : q = p
   ·rw [h, Bq]
   ·rw [Bl _ _ h])⟩
  have HM3 : Hid (Mb stag B w w3) := HM2.out.trans (Mb.mono hm3 stag_q)
  have HC := change_any w3 B s x NM L1 _ Q2 V HI3.out k hk hv
  clear hm2 hq2 hmem hq3 hm3 HD
  go_wp2_with fail
  refine HC.mono ?_
  rintro e w4 ⟨rfl, hm4, hi4⟩
  have HF : Hid (HoldIn w w4 B s x NM A V k v L I (.returned (ptr p))) := by
   have hpq : p ∉ Q2 := fun h => ((HMem.out p).1 h).1 rfl
   have hr := HE.out.rep.turn (J := upd I1 p { I1 p with v := v }) (Q' := Q2) HE.out.inn.inj HE.out.mem (by rw [Bq]) (fun q h => Bl _ _ h) (fun q h => ⟨fun h1 => ((HMem.out q).1 h1).2, fun h1 => (HMem.out q).2 ⟨h, h1⟩⟩)
   rw [if_neg hpq, Bq, HE.out.key, HE.out.set] at hr
   exact ⟨HM3.out.trans hm4, L1, _, Q2, hi4, hr, fun q hq hqk => ⟨(HE.out.old q hq).1, by rw [Bl _ _ (fun e => hqk (by rw [← (HE.out.old q hq).2, e]; exact HE.out.key))]; exact (HE.out.old q hq).2⟩, p, rfl, HE.out.mem, hpq, by rw [Bq]; exact HE.out.key, by rw [Bq]⟩
  clear hm4 hi4 HC
  go_wp2
  go_ret
  exact HF.out
theorem hold_any (w : World) (B s x : Nat) (NM : List ByteArray) (A : Ab) (V : ByteArray → Int) (hS : Spc w B s x NM A V) (k : ByteArray) (hk : k ∈ NM) (hv : 0 ≤ V k ∧ V k < 4611686018427387904) (v : Option Addr) :
  Calls Tryz.prog 38 #[ptr s, .string k, .pointer v] w fun e w' => HoldTo w w' B s x NM A V k v e := by
 obtain ⟨L, I, Q, hI, hR⟩ := hS
 refine (hold_in w B s x NM L I Q A V hI hR k hk hv v).mono ?_
 rintro e w' ⟨h1, L', I', Q', h2, h3, -, h4⟩
 exact ⟨h1, L', I', Q', h2, h3, h4⟩
def UntilIn (w w' : World) (B s x : Nat) (NM : List ByteArray) (A : Ab) (V : ByteArray → Int) (k : ByteArray) (y : Option Addr × Option Int) (L0 : List Nat) (I0 : Nat → Itm) : Prop := Mb stag B w w' ∧ ∃ L I Q, In w' B s x NM L I Q (incV V k) ∧ Rep L I Q (setA A k (some y)) ∧ ∀ q ∈ L0, (I0 q).k ≠ k → q ∈ L ∧ I q = I0 q
def UntilTo (w w' : World) (B s x : Nat) (NM : List ByteArray) (A : Ab) (V : ByteArray → Int) (k : ByteArray) (y : Option Addr × Option Int) : Prop := To w w' B s x NM (setA A k (some y)) (incV V k)
theorem holdUntil_in (w : World) (B s x : Nat) (NM : List ByteArray) (L0 : List Nat) (I0 : Nat → Itm) (Q0 : List Nat) (A : Ab) (V : ByteArray → Int) (hI0 : In w B s x NM L0 I0 Q0 V) (hR0 : Rep L0 I0 Q0 A) (k : ByteArray) (hk : k ∈ NM) (hv : 0 ≤ V k ∧ V k < 4611686018427387904) (v : Option Addr) (u : Int) (r : Bool) :
  Calls Tryz.prog 44 #[ptr s, .string k, .pointer v, .int .i64 u, .bool r] w fun e w' => e = .returned (.tuple #[]) ∧ UntilIn w w' B s x NM A V k (v, if r then some u else none) L0 I0 := by
 have HH := hold_in w B s x NM L0 I0 Q0 A V hI0 hR0 k hk hv v
 cases r with
 | false =>
  go_enter Tryz.func44, Tryz.ntmps44
  go_wp2_with fail
  refine HH.mono ?_
  rintro e w1 ⟨hm, L, I, Q, hi, hr, hol, p, rfl, -⟩
  have HE : Hid (UntilIn w w1 B s x NM A V k (v, none) L0 I0) := ⟨hm, L, I, Q, hi, hr, hol⟩
  clear hm hi hr HH hol
  go_wp2
  go_end0
  exact ⟨rfl, HE.out⟩
 | true =>
  go_enter Tryz.func44, Tryz.ntmps44
  go_wp2_with fail
  refine HH.mono ?_
  rintro e w1 ⟨hm, L, I, Q, hi, hr, hol, p, rfl, hp, hq, hpk, hpv⟩
  obtain ⟨S, P, D, D2, hX⟩ := hi
  have HX : Hid (Sx w1 B s x NM L I Q (incV V k) S P D D2) := hX
  have HR : Hid (Rep L I Q (setA A k (some (v, none)))) := hr
  have HM : Hid (Mb stag B w w1) := hm
  have HA := add_any w1 B s S L I P Q hX.qs p hp hq u
  have HI : Hid ((I p).k = k ∧ (I p).v = v) := ⟨hpk, hpv⟩
  have HOl : Hid (∀ q ∈ L0, (I0 q).k ≠ k → q ∈ L ∧ I q = I0 q) := hol
  clear hX hr hm HH hpk hpv hol
  go_wp2_with fail
  refine HA.mono ?_
  rintro e w2 ⟨rfl, hm2, P', Q', hq2, hmem⟩
  have HE : Hid (UntilIn w w2 B s x NM A V k (v, some u) L0 I0) := by
   have hX2 := HX.out.queue hm2 hq2 (fun q _ => by
    by_cases h : q = p
    ·rw [h, Bq]
    ·rw [Bl _ _ h])
   have hr := HR.out.turn (J := upd I p { I p with u := u }) (Q' := Q') (fun q hq r hr e => HX.out.inj hq hr e) hp (by rw [Bq]) (fun q h => Bl _ _ h) (fun q h => ⟨fun h1 => ((hmem q).1 h1).resolve_left h, fun h1 => (hmem q).2 (.inr h1)⟩)
   rw [if_pos ((hmem p).2 (.inl rfl)), Bq, HI.out.1, setA_twice] at hr
   rw [← HI.out.2]
   exact ⟨HM.out.trans (Mb.mono hm2 stag_q), L, _, Q', ⟨S, P', D, D2, hX2⟩, hr, fun q hq hqk => ⟨(HOl.out q hq hqk).1, by rw [Bl _ _ (fun e => hqk (by rw [← (HOl.out q hq hqk).2, e]; exact HI.out.1))]; exact (HOl.out q hq hqk).2⟩⟩
  clear hm2 hq2 hmem HA
  go_wp2
  go_end0
  exact ⟨rfl, HE.out⟩
theorem holdUntil_any (w : World) (B s x : Nat) (NM : List ByteArray) (A : Ab) (V : ByteArray → Int) (hS : Spc w B s x NM A V) (k : ByteArray) (hk : k ∈ NM) (hv : 0 ≤ V k ∧ V k < 4611686018427387904) (v : Option Addr) (u : Int) (r : Bool) :
  Calls Tryz.prog 44 #[ptr s, .string k, .pointer v, .int .i64 u, .bool r] w fun e w' => e = .returned (.tuple #[]) ∧ UntilTo w w' B s x NM A V k (v, if r then some u else none) := by
 obtain ⟨L, I, Q, hI, hR⟩ := hS
 refine (holdUntil_in w B s x NM L I Q A V hI hR k hk hv v u r).mono ?_
 rintro e w' ⟨rfl, h1, L', I', Q', h2, h3, -⟩
 exact ⟨rfl, h1, L', I', Q', h2, h3⟩
theorem lowK {w : World} {B C d x : Nat} {D : Dk.Dg} (h : Dk.Dct w B d x D) (hC : C ≤ B) : Dk.Dct w C d x D :=
 ⟨h.blk, Dk.OwnR.low h.row hC, fun f hf => ⟨(h.leaf f hf).blk, Dk.OwnR.low (h.leaf f hf).row hC, fun t ht => Dk.Tab.lower ((h.leaf f hf).tab t ht) hC, Nat.le_trans hC (h.leaf f hf).low, (h.leaf f hf).nod, (h.leaf f hf).key, (h.leaf f hf).pos⟩, h.shp, h.dir, h.own, h.one, h.ful, h.nod, Nat.le_trans hC h.low, h.seed, h.le⟩
theorem lowN {w : World} {B C d x : Nat} {D : Zs.Dk.Dg} (h : Zs.Dk.Dct w B d x D) (hC : C ≤ B) : Zs.Dk.Dct w C d x D :=
 ⟨h.blk, Zs.Dk.OwnR.low h.row hC, fun f hf => ⟨(h.leaf f hf).blk, Zs.Dk.OwnR.low (h.leaf f hf).row hC, fun t ht => Zs.Dk.Tab.lower ((h.leaf f hf).tab t ht) hC, Nat.le_trans hC (h.leaf f hf).low, (h.leaf f hf).nod, (h.leaf f hf).key, (h.leaf f hf).pos⟩, h.shp, h.dir, h.own, h.one, h.ful, h.nod, Nat.le_trans hC h.low, h.seed, h.le⟩
structure Names (NM : List ByteArray) : Prop where
 few : NM.length ≤ 100
 sz : ∀ k ∈ NM, k.size ≤ 4096
theorem Spc.new {w : World} {B x d v : Nat} {E T : Int} {D : Dk.Dg} {D2 : Zs.Dk.Dg} (hB : B ≤ w.heap.size) (hD : Dk.Dct w B d x D) (hD2 : Zs.Dk.Dct w B v x D2) (h1 : D.es = []) (h2 : D2.es = []) {NM : List ByteArray} (hN : Names NM) {w' : World} (hw : w' = w.alloc (.cells #[.int .u64 (x : Nat), .int .i64 E, .int .i64 T, ptr d, .slice none 0 0, ptr v] 85)) : Spc w' B w.heap.size x NM (fun _ => none) (fun _ => 0) := by
 have hb : Below w.heap.size w w' := by rw [hw]; exact Ac w _
 have hq : Qs w' B w.heap.size ⟨x, E, T, d, v⟩ [] (fun _ => ⟨⟨#[]⟩, none, 0⟩) (fun _ => -1) [] :=
  ⟨⟨none, 0, by rw [hw]; exact heap_alloc_new w _, OwnR.nil _ _ _ _⟩, fun p hp => absurd hp (by simp), fun p hp => absurd hp (by simp), fun i hi => absurd hi (by simp), fun i _ hi => absurd hi (by simp), fun p hp => absurd hp (by simp), List.nodup_nil, hB, by simp⟩
 refine ⟨[], fun _ => ⟨⟨#[]⟩, none, 0⟩, [], ⟨⟨x, E, T, d, v⟩, fun _ => -1, D, D2, rfl, hq, hD.keep hb, hD2.keep hb, ?_, fun k => ?_, fun e he => ?_, fun p hp => absurd hp (by simp), hN.few, hN.sz⟩, ⟨fun p hp => absurd hp (by simp), fun k y h => absurd h (by simp)⟩⟩
 ·rw [h1]; exact List.Perm.refl _
 ·rw [h2]; rfl
 ·rw [h2] at he; exact absurd he (by simp)
def NewTo (w w' : World) (x : Nat) (e : Ending) : Prop := Below w.heap.size w w' ∧ ∃ s, e = .returned (ptr s) ∧ w.heap.size ≤ s ∧ ∀ NM, Names NM → Spc w' w.heap.size s x NM (fun _ => none) (fun _ => 0)
set_option maxRecDepth 100000 in
set_option maxHeartbeats 1600000 in
theorem New_any (w : World) (x : Nat) (E T : Int) (hx : x < 18446744073709551616) :
  Calls Tryz.prog 9 #[.agg #[.int .u64 (x : Nat), .int .i64 E, .int .i64 T]] w fun e w' => NewTo w w' x e := by
 obtain ⟨w0, hw0⟩ : ∃ w0, w.alloc (.cells #[.int .u64 (x : Nat), .int .i64 E, .int .i64 T] 31) = w0 := ⟨_, rfl⟩
 have hB0 : Below w.heap.size w w0 := by rw [← hw0]; exact Ac w _
 have HB0 : Hid (Below w.heap.size w w0) := hB0
 have hblk : w0.heap[w.heap.size]? = some (.cells #[.int .u64 (x : Nat), .int .i64 E, .int .i64 T] 31 (0, 0)) := by rw [← hw0]; exact heap_alloc_new w _
 have hlt : w.heap.size < w0.heap.size := (Array.getElem?_eq_some_iff.1 hblk).1
 have HC : Hid (∀ wx, Below w0.heap.size w0 wx → wx.cell? ⟨w.heap.size, 0, none⟩ = some (.int .u64 (x : Nat)) ∧ wx.cell? ⟨w.heap.size, 1, none⟩ = some (.int .i64 E) ∧ wx.cell? ⟨w.heap.size, 2, none⟩ = some (.int .i64 T)) := fun wx hb => by
  have h1 := hb.block _ hlt
  rw [hblk] at h1
  exact ⟨by simp [World.cell?, h1], by simp [World.cell?, h1], by simp [World.cell?, h1]⟩
 have HB : Hid (Below w0.heap.size w0 w0.drew) := Aa w0 1
 obtain ⟨c0, c1, c2⟩ := HC.out _ HB.out
 have HK := fun w => Dk.New_dict x w hx
 have HN := fun w => Zs.Dk.New_dict x w hx
 have HLow : Hid (∀ wx, Below w0.heap.size w0 wx → w.heap.size ≤ wx.heap.size) := fun wx hb => Nat.le_trans hB0.size hb.size
 clear hblk hB0 hlt
 go_enter Tryz.func9, Tryz.ntmps9
 go_upto_region 1 with fail
 go_region_held3 (fun w' => w'.cell? ⟨w.heap.size, 0, none⟩ = some (.int .u64 (x : Nat)) ∧ w'.cell? ⟨w.heap.size, 1, none⟩ = some (.int .i64 E) ∧ w'.cell? ⟨w.heap.size, 2, none⟩ = some (.int .i64 T)) (first | exact HC.out _ HB.out | exact HC.out _ (Ad HB (Ac _ _)).out) (first
  | (go_at_call 34; refine (HK _).mono ?_; rintro e wk ⟨hb, d, D, rfl, hD, -, -, hes⟩; have HDk : Hid (Dk.Dct wk w.heap.size d x D ∧ D.es = []) := ⟨lowK hD (HLow.out _ HB.out), hes⟩; (try (have HDn' : Hid (Zs.Dk.Dct wk w.heap.size v x D2 ∧ D2.es = []) := ⟨HDn.out.1.keep hb, HDn.out.2⟩; clear HDn; have HDn := HDn'; clear HDn')); replace HB := Ad HB hb; clear hb hD hes)
  | (go_at_call 35; refine (HN _).mono ?_; rintro e wk ⟨hb, v, D2, rfl, hD, -, -, hes⟩; have HDn : Hid (Zs.Dk.Dct wk w.heap.size v x D2 ∧ D2.es = []) := ⟨lowN hD (HLow.out _ HB.out), hes⟩; (try (have HDk' : Hid (Dk.Dct wk w.heap.size d x D ∧ D.es = []) := ⟨HDk.out.1.keep hb, HDk.out.2⟩; clear HDk; have HDk := HDk'; clear HDk')); replace HB := Ad HB hb; clear hb hD hes))
 have HE : Hid (NewTo w (wk.alloc (.cells #[.int .u64 (x : Nat), .int .i64 E, .int .i64 T, ptr d, .slice none 0 0, Dk.ptr v] 85)) x (.returned (ptr wk.heap.size))) :=
  ⟨(Ad (HB0.out.trans (HB.out.mono HB0.out.size)) (Ac wk _)).out, wk.heap.size, rfl, HLow.out _ HB.out, fun NM hN => Spc.new (HLow.out _ HB.out) HDk.out.1 HDn.out.1 HDk.out.2 HDn.out.2 hN rfl⟩
 clear HDk HDn HB
 go_wp2
 go_ret
 exact HE.out
def valOf (y : Option (Option Addr × Option Int)) : Option Addr := match y with
 | some (v, _) => v
 | none => none
theorem eqlI_nil (w : World) (l : Nat) : (binOp .eql 78 (ptr l) (.pointer none)).run Tryz.prog w = .ok (.bool false) w := by
 rw [run_eql_pointer_nil w 78 (some ⟨l, 0, none⟩) (by rw [Tryz.underlying78]; kernel_rfl)]; rfl
theorem neqI_nil (w : World) (l : Nat) : (binOp .neq 78 (ptr l) (.pointer none)).run Tryz.prog w = .ok (.bool true) w := by
 rw [run_neq_pointer_nil w 78 (some ⟨l, 0, none⟩) (by rw [Tryz.underlying78]; kernel_rfl)]; rfl
theorem Get_any (w : World) (B s x : Nat) (NM : List ByteArray) (A : Ab) (V : ByteArray → Int) (hS : Spc w B s x NM A V) (hv : Low V) (t : Int) (k : ByteArray) (hk : k.size ≤ maxLen) :
  Calls Tryz.prog 17 #[ptr s, .string k, .int .i64 t] w fun e w' => e = .returned (.pointer (valOf (dueA A t k))) ∧ Bz w w' B s x NM A V t := by
 have HF := A5 w B s x NM A V hS hv t k hk
 go_enter Tryz.func17, Tryz.ntmps17
 go_wp2_with fail
 refine HF.mono ?_
 rintro e w1 ⟨hm, L, I, Q, hi, hr, ⟨rfl, hn⟩ | ⟨p, hp, hpk, rfl, hy⟩⟩
 ·have HE : Hid (Bz w w1 B s x NM A V t) := ⟨hm, L, I, Q, hi, hr⟩
  have HY : Hid (dueA A t k = none) := hn
  clear hm hi hr HF hn
  go_wp2
  go_ret
  exact ⟨by rw [HY.out]; rfl, HE.out⟩
 ·have HE : Hid (Bz w w1 B s x NM A V t) := ⟨hm, L, I, Q, hi, hr⟩
  have HY : Hid (dueA A t k = some ((I p).v, if p ∈ Q then some (I p).u else none)) := hy
  obtain ⟨S, P, D, D2, hX⟩ := hi
  have e1 := hX.qs.its.cv hp
  have hnn := neqI_nil w1 p
  clear hm hX hr HF hy
  go_wp2
  go_ret
  exact ⟨by rw [HY.out]; rfl, HE.out⟩
def chgV {α : Type} (A : AbV α) (V : ByteArray → Int) (k : ByteArray) : ByteArray → Int := if (A k).isSome then incV V k else V
theorem Low.due {V : ByteArray → Int} (h : Low V) (A : Ab) (t : Int) : ∀ k, 0 ≤ dueV A V t k ∧ dueV A V t k < 4611686018427387904 := fun k => by
 have := h k
 have := dueV_le A V t k
 omega
def DelTo (w w' : World) (B s x : Nat) (NM : List ByteArray) (A : Ab) (V : ByteArray → Int) (k : ByteArray) : Prop := To w w' B s x NM (setA A k none) (chgV A V k)
theorem Delete_any (w : World) (B s x : Nat) (NM : List ByteArray) (A : Ab) (V : ByteArray → Int) (hS : Spc w B s x NM A V) (hv : Low V) (t : Int) (k : ByteArray) (hk : k.size ≤ maxLen) :
  Calls Tryz.prog 29 #[ptr s, .string k, .int .i64 t] w fun e w' => e = .returned (.bool (dueA A t k).isSome) ∧ DelTo w w' B s x NM (dueA A t) (dueV A V t) k := by
 have HF := A5 w B s x NM A V hS hv t k hk
 go_enter Tryz.func29, Tryz.ntmps29
 go_wp2_with fail
 refine HF.mono ?_
 rintro e w1 ⟨hm, L, I, Q, hi, hr, ⟨rfl, hn⟩ | ⟨p, hp, hpk, rfl, hy⟩⟩
 ·have HE : Hid (DelTo w w1 B s x NM (dueA A t) (dueV A V t) k) := by
   unfold DelTo chgV
   rw [setA_self hn, hn]
   exact ⟨hm, L, I, Q, hi, hr⟩
  have HY : Hid (dueA A t k = none) := hn
  clear hm hi hr HF hn
  go_wp2
  go_ret
  exact ⟨by rw [HY.out]; rfl, HE.out⟩
 ·have HY : Hid (dueA A t k = some ((I p).v, if p ∈ Q then some (I p).u else none)) := hy
  have HI : Hid (In w1 B s x NM L I Q (dueV A V t)) := hi
  have HR : Hid (Rep L I Q (dueA A t)) := hr
  have HM : Hid (Mb stag B w w1) := hm
  have HT := take_any w1 B s x NM L I Q _ hi p hp (hv.due A t)
  have hnn := eqlI_nil w1 p
  clear hm hi hr HF hy
  go_wp2_with fail
  refine HT.mono ?_
  rintro e w2 ⟨rfl, hm2, Q', hi2, hmem⟩
  have HE : Hid (DelTo w w2 B s x NM (dueA A t) (dueV A V t) k) := by
   unfold DelTo chgV
   rw [HY.out]
   have h1 := HR.out.del HI.out.inj HI.out.nod hp hmem
   rw [hpk] at h1 hi2
   exact ⟨HM.out.trans hm2, _, I, Q', hi2, h1⟩
  clear hm2 hi2 hmem HT
  go_wp2
  go_ret
  exact ⟨by rw [HY.out]; rfl, HE.out⟩
def PutTo (w w' : World) (B s x : Nat) (NM : List ByteArray) (A : Ab) (V : ByteArray → Int) (k : ByteArray) (v : Option Addr) : Prop := To w w' B s x NM (setA A k (some (v, none))) (incV V k)
theorem Put_any (w : World) (B s x : Nat) (NM : List ByteArray) (A : Ab) (V : ByteArray → Int) (hS : Spc w B s x NM A V) (hv : Low V) (t : Int) (k : ByteArray) (hk : k ∈ NM) (hks : k.size ≤ 4096) (v : Option Addr)
  (hE : Calls Tryz.prog 36 #[.pointer v] w fun e w' => e = .returned (.bool false) ∧ Below w.heap.size w w') :
  Calls Tryz.prog 10 #[ptr s, .string k, .pointer v, .int .i64 t] w fun e w' => e = .returned (.int .i64 0) ∧ PutTo w w' B s x NM (dueA A t) (dueV A V t) k v := by
 have HS : Hid (Spc w B s x NM A V) := hS
 have hlt : B ≤ w.heap.size := by
  obtain ⟨L, I, Q, ⟨S, P, D, D2, hX⟩, -⟩ := hS
  have := hX.lt
  omega
 clear hS
 obtain ⟨n, hn⟩ : ∃ n, k.size = n := ⟨_, rfl⟩
 have hz : (n : Int) ≤ 4096 := by omega
 go_enter Tryz.func10, Tryz.ntmps10
 go_wp2_with fail
 refine hE.mono ?_
 rintro e w1 ⟨rfl, hb⟩
 have HM1 : Hid (Mb stag B w w1) := Mb.of_below hb hlt
 have HD := Cj w1 B s x NM A V (HS.out.keep hb) hv t
 clear hb hE
 go_wp2_with fail
 refine HD.mono ?_
 rintro e w2 ⟨rfl, hm2, hs2⟩
 have HM2 : Hid (Mb stag B w w2) := HM1.out.trans hm2
 have HH := hold_any w2 B s x NM _ _ hs2 k hk (hv.due A t k) v
 clear hm2 hs2 HD
 go_wp2_with fail
 refine HH.mono ?_
 rintro e w3 ⟨hm, L, I, Q, hi, hr, p, rfl, -⟩
 have HE : Hid (PutTo w w3 B s x NM (dueA A t) (dueV A V t) k v) := ⟨HM2.out.trans hm, L, I, Q, hi, hr⟩
 clear hm hi hr HH
 go_wp2
 go_ret
 exact ⟨rfl, HE.out⟩
theorem Put_empty (w : World) (B s x : Nat) (NM : List ByteArray) (A : Ab) (V : ByteArray → Int) (hS : Spc w B s x NM A V) (hv : Low V) (t : Int) (k : ByteArray) (hks : k.size ≤ 4096) (v : Option Addr)
  (hE : Calls Tryz.prog 36 #[.pointer v] w fun e w' => e = .returned (.bool true) ∧ Below w.heap.size w w') :
  Calls Tryz.prog 10 #[ptr s, .string k, .pointer v, .int .i64 t] w fun e w' => e = .returned (.int .i64 0) ∧ DelTo w w' B s x NM (dueA A t) (dueV A V t) k := by
 have HS : Hid (Spc w B s x NM A V) := hS
 have hlt : B ≤ w.heap.size := by
  obtain ⟨L, I, Q, ⟨S, P, D, D2, hX⟩, -⟩ := hS
  have := hX.lt
  omega
 clear hS
 have HK : Hid (k.size ≤ maxLen) := by show _ ≤ _; unfold maxLen; omega
 obtain ⟨n, hn⟩ : ∃ n, k.size = n := ⟨_, rfl⟩
 have hz : (n : Int) ≤ 4096 := by omega
 go_enter Tryz.func10, Tryz.ntmps10
 go_wp2_with fail
 refine hE.mono ?_
 rintro e w1 ⟨rfl, hb⟩
 have HM1 : Hid (Mb stag B w w1) := Mb.of_below hb hlt
 have HD := Delete_any w1 B s x NM A V (HS.out.keep hb) hv t k HK.out
 clear hb hE
 go_wp2_with fail
 refine HD.mono ?_
 rintro e w2 ⟨rfl, hm2, hs2⟩
 have HE : Hid (DelTo w w2 B s x NM (dueA A t) (dueV A V t) k) := ⟨HM1.out.trans hm2, hs2⟩
 clear hm2 hs2 HD
 go_wp2
 go_ret
 exact ⟨rfl, HE.out⟩
def TouchTo (w w' : World) (B s x : Nat) (NM : List ByteArray) (A : Ab) (V : ByteArray → Int) (k : ByteArray) (r : Bool) : Prop := To w w' B s x NM (if r then setA A k none else A) (chgV A V k)
theorem Touch_any (w : World) (B s x : Nat) (NM : List ByteArray) (A : Ab) (V : ByteArray → Int) (hS : Spc w B s x NM A V) (hv : Low V) (t : Int) (k : ByteArray) (hk : k ∈ NM) (hks : k.size ≤ 4096) (r : Bool)
  (hE : ∀ w1 v u, Mb stag B w w1 → dueA A t k = some (v, u) → Calls Tryz.prog 36 #[.pointer v] w1 fun e w' => e = .returned (.bool r) ∧ Below w1.heap.size w1 w') :
  Calls Tryz.prog 32 #[ptr s, .string k, .int .i64 t] w fun e w' => e = .returned (.tuple #[]) ∧ TouchTo w w' B s x NM (dueA A t) (dueV A V t) k r := by
 have HF := A5 w B s x NM A V hS hv t k (by unfold maxLen; omega)
 go_enter Tryz.func32, Tryz.ntmps32
 go_wp2_with fail
 refine HF.mono ?_
 rintro e w1 ⟨hm, L, I, Q, hi, hr, ⟨rfl, hn⟩ | ⟨p, hp, hpk, rfl, hy⟩⟩
 ·have HE : Hid (TouchTo w w1 B s x NM (dueA A t) (dueV A V t) k r) := by
   unfold TouchTo chgV
   rw [setA_self hn, hn, ite_self]
   exact ⟨hm, L, I, Q, hi, hr⟩
  clear hm hi hr HF hn hE
  go_wp2
  go_end0
  exact ⟨rfl, HE.out⟩
 ·have HY : Hid (dueA A t k = some ((I p).v, if p ∈ Q then some (I p).u else none)) := hy
  have HI : Hid (In w1 B s x NM L I Q (dueV A V t)) := hi
  have HR : Hid (Rep L I Q (dueA A t)) := hr
  have HM : Hid (Mb stag B w w1) := hm
  have HEm := hE w1 _ _ hm hy
  have hnn := eqlI_nil w1 p
  obtain ⟨S, P, D, D2, hX⟩ := hi
  have e1 := hX.qs.its.cv hp
  have hlt : B ≤ w1.heap.size := by have := hX.lt; omega
  clear hm hX hr HF hy hE
  go_wp2_with fail
  refine HEm.mono ?_
  rintro e w2 ⟨rfl, hb2⟩
  have HI2 : Hid (In w2 B s x NM L I Q (dueV A V t)) := HI.out.keep hb2
  have HM2 : Hid (Mb stag B w w2) := HM.out.trans (Mb.of_below hb2 hlt)
  clear hb2 HEm
  cases r with
  | true =>
   have HT := take_any w2 B s x NM L I Q _ HI2.out p hp (hv.due A t)
   go_wp2_with fail
   refine HT.mono ?_
   rintro e w3 ⟨rfl, hm3, Q', hi3, hmem⟩
   have HE : Hid (TouchTo w w3 B s x NM (dueA A t) (dueV A V t) k true) := by
    unfold TouchTo chgV
    rw [HY.out]
    have h1 := HR.out.del HI.out.inj HI.out.nod hp hmem
    rw [hpk] at h1 hi3
    exact ⟨HM2.out.trans hm3, _, I, Q', hi3, h1⟩
   clear hm3 hi3 hmem HT
   go_wp2
   go_end0
   exact ⟨rfl, HE.out⟩
  | false =>
   have HC := change_any w2 B s x NM L I Q _ HI2.out k hk (hv.due A t k)
   go_wp2_with fail
   refine HC.mono ?_
   rintro e w3 ⟨rfl, hm3, hi3⟩
   have HE : Hid (TouchTo w w3 B s x NM (dueA A t) (dueV A V t) k false) := by
    unfold TouchTo chgV
    rw [HY.out]
    exact ⟨HM2.out.trans hm3, L, I, Q, hi3, HR.out⟩
   clear hm3 hi3 HC
   go_wp2
   go_end0
   exact ⟨rfl, HE.out⟩
end Go.Proofs.YtmjeljldmmkcpaaGreat.Sq
