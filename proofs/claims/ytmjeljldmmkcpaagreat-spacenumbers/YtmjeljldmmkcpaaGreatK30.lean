/- Texts that the others stand on. -/
import Derived.Test.YtmjeljldmmkcpaaGreatK29
import Derived.Test.YtmjeljldmmkcpaaGreatK16
namespace Go.Proofs.YtmjeljldmmkcpaaGreat.Sq
open Go.RowKit Go.PlainAid
open Dk (ptr Aa Ac Ad Af OwnR OwnP OwnS Mv Am Elt A4)
theorem eltI : Elt 81 78 1 8 := A4 Tryz.underlying81 Tryz.infoI rfl (by decide)
theorem Qs.until {w : World} {B s : Nat} {S : Sd} {L : List Nat} {I : Nat → Itm} {P : Nat → Int} {Q : List Nat} (H : Qs w B s S L I P Q) {p : Nat} (hp : p ∈ L) (hq : p ∉ Q) (n : Int) {w' : World} (hw : w' = w.setCell ⟨p, 2, none⟩ (.int .i64 n)) :
  Qs w' B s S L (upd I p { I p with u := n }) P Q ∧ Mb qtag B w w' := by
 have hI := H.its p hp
 obtain ⟨a, c, h1, h2⟩ := H.ex
 subst hw
 refine ⟨⟨⟨a, c, ?_, ?_⟩, H.its.until hp n, H.sub, H.plc, ?_, H.out, H.nod, H.low, H.few⟩, Mb.set hI.2 (by decide) hI.1⟩
 ·rw [Ar (Bj h1 hI.2 (by decide))]; exact h1
 ·refine OwnR.kept h2 fun k hk => Ar ?_
  obtain ⟨-, -, cur, h3⟩ := OwnR.lt h2 hk
  exact Bj h3 hI.2 (by decide)
 ·intro i i0 hi
  have h3 : ∀ j, j < Q.length → un (upd I p { I p with u := n }) (at' Q j) = un I (at' Q j) := fun j hj => by
   show (upd I p { I p with u := n } (at' Q j)).u = _
   rw [Bl _ _ (fun e => hq (by rw [← e]; exact at_mem hj))]
  rw [h3 _ hi, h3 _ (by omega)]
  exact H.ord i i0 hi
theorem Qs.value {w : World} {B s : Nat} {S : Sd} {L : List Nat} {I : Nat → Itm} {P : Nat → Int} {Q : List Nat} (H : Qs w B s S L I P Q) {p : Nat} (hp : p ∈ L) (n : Option Addr) {w' : World} (hw : w' = w.setCell ⟨p, 1, none⟩ (.pointer n)) :
  Qs w' B s S L (upd I p { I p with v := n }) P Q ∧ Mb qtag B w w' := by
 have hI := H.its p hp
 obtain ⟨a, c, h1, h2⟩ := H.ex
 subst hw
 have h3 : un (upd I p { I p with v := n }) = un I := by
  funext q
  show (upd I p { I p with v := n } q).u = (I q).u
  by_cases e : q = p
  ·rw [e, Br]
  ·rw [Bl _ _ e]
 refine ⟨⟨⟨a, c, ?_, ?_⟩, H.its.value hp n, H.sub, H.plc, by rw [h3]; exact H.ord, H.out, H.nod, H.low, H.few⟩, Mb.set hI.2 (by decide) hI.1⟩
 ·rw [Ar (Bj h1 hI.2 (by decide))]; exact h1
 ·refine OwnR.kept h2 fun k hk => Ar ?_
  obtain ⟨-, -, cur, h3⟩ := OwnR.lt h2 hk
  exact Bj h3 hI.2 (by decide)
theorem Qs.grow {w1 w2 w3 : World} {B s : Nat} {S : Sd} {L : List Nat} {I : Nat → Itm} {P : Nat → Int} {Q : List Nat} (H : Qs w1 B s S L I P Q) {a a3 : Option Addr} {c n3 c3 : Nat} (h1 : w1.heap[s]? = some (.cells (By S (.slice a Q.length c)) 85 (0, 0))) (h2 : OwnP w1 B 78 a Q.length c Q) (hb : Below w1.heap.size w1 w2) (hg : w2.grownBy w3 (a.map (·.block))) (hO : OwnR w3 B 78 1 a3 n3 c3 (Am Q ++ [.pointer none])) (hn : n3 = Q.length + 1) (hf : Q.length + 1 ≤ 1000000) :
  ∃ g, a3 = some ⟨g, 0, none⟩ ∧ w3.heap[s]? = some (.cells (By S (.slice a Q.length c)) 85 (0, 0)) ∧ ∀ w4, w4 = w3.setCell ⟨s, 4, none⟩ (.slice (some ⟨g, 0, none⟩) n3 c3) → Hs w4 B s S g c3 L I P (Q ++ [0]) Q.length ∧ Mb qtag B w1 w4 := by
 have hrow : ∀ (k : Nat) (cs : Array Value) (t : TypeId), w1.heap[k]? = some (Obj.cells cs t (0, 0)) → t ≠ 78 → w3.heap[k]? = some (Obj.cells cs t (0, 0)) := fun k cs t hk ht => by
  have hlt := (Array.getElem?_eq_some_iff.1 hk).1
  rw [hg.block k (Nat.lt_of_lt_of_le hlt hb.size) (fun e => by
   obtain ⟨-, -, cur, h3⟩ := OwnR.lt h2 e.symm
   exact Bj hk h3 ht rfl), hb.block k hlt, hk]
 have hs3 := hrow s _ _ h1 (by decide)
 have hBs : B ≤ w1.heap.size := Nat.le_trans H.low (Nat.le_of_lt (Array.getElem?_eq_some_iff.1 h1).1)
 have hM : Mb qtag B w1 w3 := by
  refine ⟨⟨hg.os.trans hb.os, hg.tape.trans hb.tape, hg.output.trans hb.output, Nat.le_trans hb.size hg.size, fun k cs t hk ht => ?_⟩, ⟨hg.os.trans hb.os, hg.tape.trans hb.tape, hg.output.trans hb.output, Nat.le_trans hb.size hg.size, fun k hk => ?_⟩⟩
  ·rw [hrow k cs t hk (fun e => by rw [e, qtagP] at ht; cases ht), hk]
  ·rw [hg.block k (by have := hb.size; omega) (fun e => by have := (OwnR.lt h2 e.symm).1; omega), hb.block k (by omega)]
 rcases hO.2 with ⟨h3, h4⟩ | ⟨g, c', cur, h3, h4, h5, h6, h7, h8, h9⟩
 ·injection h3 with _ h5; omega
 ·injection h3 with e1 e2 e3
  subst e1
  subst e3
  refine ⟨g, rfl, hs3, fun w4 hw => ?_⟩
  subst hw
  have hsg : s ≠ g := Bj hs3 h5 (by decide)
  have hl : (Q ++ [0]).length = Q.length + 1 := by simp
  refine ⟨⟨?_, ⟨⟨cur, ?_, by omega, fun i hi hne => ?_⟩, by omega, h7, h4⟩, fun p hp => ⟨(H.its p hp).1, ?_⟩, fun i hi hne => ?_, fun i hi hne => ?_, H.low, by omega⟩, hM.trans (Mb.set hs3 (by decide) H.low)⟩
  ·rw [Ak hs3, hl, hn]; rfl
  ·rw [Ar (Ne.symm hsg)]; exact h5
  ·rw [hl] at hi
   have hi' : i < Q.length := by omega
   rw [at_left hi']
   have h10 := congrArg (fun l : List Value => l[i]?) h9
   replace h10 : (cur.toList.take (n3 * 1))[i]? = (Am Q ++ [.pointer none])[i]? := h10
   rw [List.getElem?_take, if_pos (by omega), Array.getElem?_toList, List.getElem?_append_left (by unfold Am; rw [List.length_map]; exact hi')] at h10
   rw [h10]
   unfold Am
   rw [List.getElem?_map, at_some hi']
   rfl
  ·rw [Ar (Ne.symm (Bj h1 (H.its p hp).2 (by decide)))]
   exact hrow p _ _ (H.its p hp).2 (by decide)
  ·rw [hl] at hi
   have hi' : i < Q.length := by omega
   rw [at_left hi']
   exact H.sub _ (at_mem hi')
  ·rw [hl] at hi
   have hi' : i < Q.length := by omega
   rw [at_left hi']
   exact H.plc i hi'
def AddTo (w w' : World) (B s : Nat) (S : Sd) (L : List Nat) (I : Nat → Itm) (Q : List Nat) (p : Nat) (n : Int) : Prop := Mb qtag B w w' ∧ ∃ P' Q', Qs w' B s S L (upd I p { I p with u := n }) P' Q' ∧ ∀ q, q ∈ Q' ↔ q = p ∨ q ∈ Q
set_option maxRecDepth 100000 in
theorem add_any (w : World) (B s : Nat) (S : Sd) (L : List Nat) (I : Nat → Itm) (P : Nat → Int) (Q : List Nat) (H : Qs w B s S L I P Q) (p : Nat) (hp : p ∈ L) (hq : p ∉ Q) (n : Int) :
  Calls Tryz.prog 76 #[qp s, ptr p, .int .i64 n] w fun e w' => e = .returned (.tuple #[]) ∧ AddTo w w' B s S L I Q p n := by
 have f1 := H.its.cu hp
 have f2 := H.its.fz hp 2
 obtain ⟨w1, hw1⟩ : ∃ w1, w.setCell ⟨p, 2, none⟩ (.int .i64 n) = w1 := ⟨_, rfl⟩
 obtain ⟨hQ1, hM1⟩ := H.until hp hq n hw1.symm
 have hqn := H.plc.nod
 clear H
 obtain ⟨J, hJ⟩ : ∃ J, upd I p { I p with u := n } = J := ⟨_, rfl⟩
 rw [hJ] at hQ1
 have HJ : Hid (upd I p { I p with u := n } = J) := hJ
 clear hJ
 have HM1 : Hid (Mb qtag B w w1) := hM1
 have HQ1 : Hid (Qs w1 B s S L J P Q) := hQ1
 obtain ⟨a, c, h1, h2⟩ := hQ1.ex
 have e1 : w1.cell? ⟨s, 4, none⟩ = some (.slice a Q.length c) := by simp [World.cell?, h1]
 have hle : Q.length ≤ 1000000 := hQ1.le
 have HO : Hid (OwnP w1 B 78 a Q.length c Q) := h2
 have HB : Hid (w1.heap[s]? = some (.cells (By S (.slice a Q.length c)) 85 (0, 0))) := h1
 have hBl : B ≤ w1.heap.size := Nat.le_trans hQ1.low (Nat.le_of_lt (Array.getElem?_eq_some_iff.1 h1).1)
 clear h1 h2 hQ1 hM1
 have hf : Q.length + 1 ≤ 1000000 := by
  have h3 := len_sub (Q := p :: Q) (List.nodup_cons.2 ⟨hq, hqn⟩) (fun q hq' => by
   rcases List.mem_cons.1 hq' with rfl | h4
   ·exact hp
   ·exact HQ1.out.sub q h4)
  rw [List.length_cons] at h3
  exact Nat.le_trans h3 HQ1.out.few
 go_enter Tryz.func76, Tryz.ntmps76
 go_wp2_with (at_builtin; refine Dk.append_r rfl (.tmp 14) (.tmp 15) rfl eltI B rfl (OwnR.keep HO.out (Ac w1 _)) [.pointer none] rfl rfl (by intro j u hu; cases j with | zero => (rw [Af]; simp only [World.cell?, heap_alloc_new]; exact hu) | succ j => simp at hu) (by simp [Value.oneCell']) (by decide) (by omega) (by unfold maxLen; omega) (Nat.le_trans hBl (Ac w1 _).size) ?_; intro a3 n3 c3 w3 hn3 HO3 HG3 HW3; obtain ⟨g, rfl, hs3, hgr⟩ := HQ1.out.grow HB.out HO.out (Ac w1 _) HG3.out HO3.out hn3 hf; have m1 : w3.cell? ⟨s, 4, none⟩ = some (.slice a Q.length c) := (by simp [World.cell?, hs3]); have m2 : w3.frozen? ⟨s, 4, none⟩ = false := (by simp [World.frozen?, hs3]); have HGr : Hid (∀ w4, w4 = w3.setCell ⟨s, 4, none⟩ (.slice (some ⟨g, 0, none⟩) n3 c3) → Hs w4 B s S g c3 L J P (Q ++ [0]) Q.length ∧ Mb qtag B w1 w4) := hgr; clear hgr hs3 HO3 HG3 HW3)
 subst hn3
 obtain ⟨w4, hw4⟩ : ∃ w4, w3.setCell ⟨s, 4, none⟩ (.slice (some ⟨g, 0, none⟩) (Q.length + 1) c3) = w4 := ⟨_, rfl⟩
 rw [hw4]
 obtain ⟨hH4, hM4⟩ := HGr.out w4 hw4.symm
 have hl : (Q ++ [0]).length = Q.length + 1 := by simp
 have hset : (Q ++ [0]).set Q.length p = Q ++ [p] := by rw [List.set_append_right _ _ (Nat.le_refl _), Nat.sub_self]; rfl
 have hW : Way w4 w4 B s S g c3 L J P (Q ++ [0]) Q.length p P (Q ++ [0]) Q.length := by
  refine ⟨hH4, HQ1.out.ord.more 0, by omega, fun i hi hne e => ?_, List.Perm.refl _, fun _ _ => rfl, Mb.refl _ _ _⟩
  have hi' : i < Q.length := by omega
  rw [at_left hi'] at e
  exact hq (by rw [← e]; exact at_mem hi')
 have HM4 : Hid (Mb qtag B w w4) := HM1.out.trans hM4
 refine (rise_any w4 B s S g c3 L J P (Q ++ [0]) Q.length p hW hp).mono ?_
 rintro e w5 ⟨rfl, P', Q', h', hF, hlt, hat, hpl, hgap, hah, hk⟩
 have HE : Hid (AddTo w w5 B s S L I Q p n) := by
  have hpm := hF.perm
  have ho := hF.out
  rw [hset] at hpm ho
  have hmem : ∀ q, q ∈ Q' ↔ q = p ∨ q ∈ Q := fun q => by
   rw [hpm.mem_iff, List.mem_append, List.mem_singleton, or_comm]
  refine ⟨HM4.out.trans hF.mv, P', Q', ?_, hmem⟩
  rw [HJ.out]
  refine hF.hs.qs (hk fun i i0 hi hpar => by omega) (fun q hq' hqn => ?_) HQ1.out.nod HQ1.out.few
  rw [ho q (fun h => hqn (hpm.mem_iff.2 h))]
  exact HQ1.out.out q hq' (fun h => hqn ((hmem q).2 (.inr h)))
 clear hF hlt hat hpl hgap hah hk hW hH4 hM4
 go_wp2
 go_end0
 exact ⟨rfl, HE.out⟩
theorem newItem_any (w : World) (k : BA) :
  Calls Tryz.prog 84 #[.string k] w fun e w' => e = .returned (ptr w.heap.size) ∧ w' = w.alloc (.cells (Ca ⟨k, none, 0⟩ (-1)) 96) := by
 go_enter Tryz.func84, Tryz.ntmps84
 go_wp2
 go_ret
 exact ⟨rfl, rfl⟩
theorem Qs.more {w : World} {B s : Nat} {S : Sd} {L : List Nat} {I : Nat → Itm} {P : Nat → Int} {Q : List Nat} (H : Qs w B s S L I P Q) (i : Itm) (hf : L.length + 1 ≤ 1000000) {w' : World} (hw : w' = w.alloc (.cells (Ca i (-1)) 96)) :
  Qs w' B s S (w.heap.size :: L) (upd I w.heap.size i) (upd P w.heap.size (-1)) Q ∧ w.heap.size ∉ L := by
 have hb : Below w.heap.size w w' := by rw [hw]; exact Ac w _
 have hn : w.heap.size ∉ L := fun h => by have := H.its.lt h; omega
 have hnq : w.heap.size ∉ Q := fun h => hn (H.sub _ h)
 have H1 := H.keep hb
 obtain ⟨a, c, h1, h2⟩ := H1.ex
 have hB : B ≤ w.heap.size := by
  obtain ⟨a, c, h1, h2⟩ := H.ex
  exact Nat.le_trans H.low (Nat.le_of_lt (Array.getElem?_eq_some_iff.1 h1).1)
 refine ⟨⟨⟨a, c, h1, h2⟩, fun p hp => ?_, fun p hp => List.mem_cons_of_mem _ (H.sub p hp), fun j hj => ?_, fun j j0 hj => ?_, fun p hp hpq => ?_, List.nodup_cons.2 ⟨hn, H.nod⟩, H.low, by rw [List.length_cons]; exact hf⟩, hn⟩
 ·rcases List.mem_cons.1 hp with rfl | hp
  ·refine ⟨hB, ?_⟩
   rw [Br, Br, hw]
   exact heap_alloc_new w _
  ·have hne : p ≠ w.heap.size := fun e => hn (by rw [← e]; exact hp)
   rw [Bl _ _ hne, Bl _ _ hne]
   exact H1.its p hp
 ·rw [Bl _ _ (fun e => hnq (by rw [← e]; exact at_mem hj))]
  exact H.plc j hj
 ·have h3 : ∀ j, j < Q.length → un (upd I w.heap.size i) (at' Q j) = un I (at' Q j) := fun j hj => by
   show (upd I w.heap.size i (at' Q j)).u = _
   rw [Bl _ _ (fun e => hnq (by rw [← e]; exact at_mem hj))]
  rw [h3 _ hj, h3 _ (by omega)]
  exact H.ord j j0 hj
 ·rcases List.mem_cons.1 hp with rfl | hp
  ·rw [Br]
  ·rw [Bl _ _ (fun e => hn (by rw [← e]; exact hp))]
   exact H.out p hp hpq
theorem Qs.less {w : World} {B s : Nat} {S : Sd} {L : List Nat} {I : Nat → Itm} {P : Nat → Int} {Q : List Nat} (H : Qs w B s S L I P Q) {p : Nat} (hq : p ∉ Q) : Qs w B s S (L.erase p) I P Q :=
 ⟨H.ex, fun q h => H.its q (List.mem_of_mem_erase h), fun q h => (List.mem_erase_of_ne (fun e => hq (by rw [← e]; exact h))).2 (H.sub q h), H.plc, H.ord, fun q h hn => H.out q (List.mem_of_mem_erase h) hn, H.nod.erase p, H.low, Nat.le_trans List.length_erase_le H.few⟩
abbrev adr (p : Nat) : Option Addr := some ⟨p, 0, none⟩
def kents (L : List Nat) (I : Nat → Itm) : List Dk.En := L.map fun p => ((I p).k, adr p)
def stag (t : TypeId) : Bool := qtag t || Dk.dtag t || Zs.Dk.dtag t
theorem stag_q : ∀ t, qtag t = true → stag t = true := fun t h => by unfold stag; rw [h]; rfl
theorem stag_d : ∀ t, Dk.dtag t = true → stag t = true := fun t h => by unfold stag; rw [h, Bool.or_true]; rfl
theorem stag_e : ∀ t, Zs.Dk.dtag t = true → stag t = true := fun t h => by unfold stag; rw [h, Bool.or_true]
theorem q_d : ∀ t, qtag t = true → Dk.dtag t = false := by
 intro t h
 unfold qtag at h
 simp only [Bool.or_eq_true, beq_iff_eq] at h
 rcases h with (rfl | rfl) | rfl <;> rfl
theorem q_e : ∀ t, qtag t = true → Zs.Dk.dtag t = false := by
 intro t h
 unfold qtag at h
 simp only [Bool.or_eq_true, beq_iff_eq] at h
 rcases h with (rfl | rfl) | rfl <;> rfl
theorem d_q : ∀ t, Dk.dtag t = true → qtag t = false := by
 intro t h
 unfold Dk.dtag at h
 simp only [Bool.or_eq_true, beq_iff_eq] at h
 rcases h with ((((rfl | rfl) | rfl) | rfl) | rfl) | rfl <;> rfl
theorem e_q : ∀ t, Zs.Dk.dtag t = true → qtag t = false := by
 intro t h
 unfold Zs.Dk.dtag at h
 simp only [Bool.or_eq_true, beq_iff_eq] at h
 rcases h with ((((rfl | rfl) | rfl) | rfl) | rfl) | rfl <;> rfl
theorem d_e : ∀ t, Dk.dtag t = true → Zs.Dk.dtag t = false := by
 intro t h
 unfold Dk.dtag at h
 simp only [Bool.or_eq_true, beq_iff_eq] at h
 rcases h with ((((rfl | rfl) | rfl) | rfl) | rfl) | rfl <;> rfl
theorem e_d : ∀ t, Zs.Dk.dtag t = true → Dk.dtag t = false := by
 intro t h
 unfold Zs.Dk.dtag at h
 simp only [Bool.or_eq_true, beq_iff_eq] at h
 rcases h with ((((rfl | rfl) | rfl) | rfl) | rfl) | rfl <;> rfl
theorem toE {p : TypeId → Bool} {w w' : World} (h : Dk.Mv p w w') : Dk.Mv p w w' := ⟨h.os, h.tape, h.output, h.size, h.block⟩
theorem ofE {p : TypeId → Bool} {w w' : World} (h : Dk.Mv p w w') : Dk.Mv p w w' := ⟨h.os, h.tape, h.output, h.size, h.block⟩
structure Sx (w : World) (B s x : Nat) (NM : List BA) (L : List Nat) (I : Nat → Itm) (Q : List Nat) (V : BA → Int) (S : Sd) (P : Nat → Int) (D : Dk.Dg) (D2 : Zs.Dk.Dg) : Prop where
 sx : S.x = x
 qs : Qs w B s S L I P Q
 kd : Dk.Dct w B S.d x D
 vd : Zs.Dk.Dct w B S.v x D2
 kp : D.es.Perm (kents L I)
 vp : ∀ k, Zs.Dk.getE D2.es k = V k
 vn : ∀ e ∈ D2.es, e.1 ∈ NM
 key : ∀ p ∈ L, (I p).k ∈ NM
 nm : NM.length ≤ 100
 sz : ∀ k ∈ NM, k.size ≤ 4096
def In (w : World) (B s x : Nat) (NM : List BA) (L : List Nat) (I : Nat → Itm) (Q : List Nat) (V : BA → Int) : Prop := ∃ S P D D2, Sx w B s x NM L I Q V S P D D2
theorem keys_kents (L : List Nat) (I : Nat → Itm) : Dk.Ae (kents L I) = L.map fun p => (I p).k := by unfold Dk.Ae kents; rw [List.map_map]; rfl
theorem len_subB {Q L : List BA} (hn : Q.Nodup) (hs : ∀ p ∈ Q, p ∈ L) : Q.length ≤ L.length := by
 induction Q generalizing L with
 | nil => exact Nat.zero_le _
 | cons q Q ih =>
  rw [List.nodup_cons] at hn
  have h1 : ∀ p ∈ Q, p ∈ L.filter (fun r => decide (r ≠ q)) := fun p hp => List.mem_filter.2 ⟨hs p (List.mem_cons_of_mem _ hp), decide_eq_true (fun e => hn.1 (by rw [← e]; exact hp))⟩
  have h2 := ih hn.2 h1
  have h3 : (L.filter (fun r => decide (r ≠ q))).length < L.length := by
   have hq := hs q (by simp)
   obtain ⟨a, c, e⟩ := List.append_of_mem hq
   rw [e, List.filter_append, List.filter_cons_of_neg (by simp), List.length_append, List.length_append, List.length_cons]
   have := List.length_filter_le (fun r => decide (r ≠ q)) a
   have := List.length_filter_le (fun r => decide (r ≠ q)) c
   omega
  rw [List.length_cons]
  omega
section
variable {w : World} {B s x : Nat} {NM : List BA} {L : List Nat} {I : Nat → Itm} {Q : List Nat} {V : BA → Int} {S : Sd} {P : Nat → Int} {D : Dk.Dg} {D2 : Zs.Dk.Dg}
theorem Sx.nodk (H : Sx w B s x NM L I Q V S P D D2) : (L.map fun p => (I p).k).Nodup := by
 have := (H.kp.map (·.1)).nodup_iff.1 H.kd.nodk
 rw [← keys_kents]
 exact this
theorem Sx.inj (H : Sx w B s x NM L I Q V S P D D2) {p q : Nat} (hp : p ∈ L) (hq : q ∈ L) (e : (I p).k = (I q).k) : p = q := by
 have hn := H.nodk
 clear H
 induction L with
 | nil => cases hp
 | cons a L ih =>
  rw [List.map_cons, List.nodup_cons] at hn
  rcases List.mem_cons.1 hp with e1 | h1
  ·rcases List.mem_cons.1 hq with e2 | h2
   ·rw [e1, e2]
   ·rw [e1] at e
    exact absurd (List.mem_map.2 ⟨q, h2, e.symm⟩) hn.1
  ·rcases List.mem_cons.1 hq with e2 | h2
   ·rw [e2] at e
    exact absurd (List.mem_map.2 ⟨p, h1, e⟩) hn.1
   ·exact ih h1 h2 hn.2
theorem Sx.few (H : Sx w B s x NM L I Q V S P D D2) : L.length ≤ 100 := by
 have h1 := len_subB H.nodk (fun k hk => by obtain ⟨p, hp, rfl⟩ := List.mem_map.1 hk; exact H.key p hp)
 rw [List.length_map] at h1
 exact Nat.le_trans h1 H.nm
theorem Sx.few2 (H : Sx w B s x NM L I Q V S P D D2) : D2.es.length ≤ 100 := by
 have h1 := len_subB H.vd.nodk (fun k hk => by obtain ⟨p, hp, rfl⟩ := List.mem_map.1 hk; exact H.vn p hp)
 rw [List.length_map] at h1
 exact Nat.le_trans h1 H.nm
theorem Sx.len (H : Sx w B s x NM L I Q V S P D D2) : D.es.length = L.length := by rw [H.kp.length_eq]; exact List.length_map ..
theorem Sx.lt (H : Sx w B s x NM L I Q V S P D D2) : B ≤ s ∧ s < w.heap.size := by
 obtain ⟨a, c, h1, -⟩ := H.qs.ex
 exact ⟨H.qs.low, (Array.getElem?_eq_some_iff.1 h1).1⟩
theorem Sx.cd (H : Sx w B s x NM L I Q V S P D D2) : w.cell? ⟨s, 3, none⟩ = some (ptr S.d) := by
 obtain ⟨a, c, h1, -⟩ := H.qs.ex
 simp [World.cell?, h1]
theorem Sx.cv (H : Sx w B s x NM L I Q V S P D D2) : w.cell? ⟨s, 5, none⟩ = some (ptr S.v) := by
 obtain ⟨a, c, h1, -⟩ := H.qs.ex
 simp [World.cell?, h1]
theorem Sx.mx (H : Sx w B s x NM L I Q V S P D D2) {k : BA} (hk : k ∈ NM) : k.size ≤ maxLen := by
 have := H.sz k hk
 unfold maxLen
 omega
theorem Sx.mv (H : Sx w B s x NM L I Q V S P D D2) {w' : World} {t : TypeId → Bool} (hm : Mv t w w') (ht : ∀ k, stag k = true → t k = false) : Sx w' B s x NM L I Q V S P D D2 :=
 ⟨H.sx, H.qs.mv hm (fun k hk => ht k (stag_q k hk)), H.kd.mv hm (fun k hk => ht k (stag_d k hk)), H.vd.mv (toE hm) (fun k hk => ht k (stag_e k hk)), H.kp, H.vp, H.vn, H.key, H.nm, H.sz⟩
theorem Sx.keep (H : Sx w B s x NM L I Q V S P D D2) {w' : World} (hb : Below w.heap.size w w') : Sx w' B s x NM L I Q V S P D D2 := H.mv (t := fun _ => false) (Mv.of_below hb) (fun _ _ => rfl)
theorem Sx.found (H : Sx w B s x NM L I Q V S P D D2) {p : Nat} (hp : p ∈ L) : Dk.getE D.es (I p).k = adr p ∧ Dk.hasK D.es (I p).k = true := by
 have hm : ((I p).k, adr p) ∈ D.es := H.kp.mem_iff.2 (List.mem_map.2 ⟨p, hp, rfl⟩)
 exact ⟨Dk.getE_mem H.kd.nodk hm, Dk.hasK_iff.2 (List.mem_map.2 ⟨_, hm, rfl⟩)⟩
theorem Sx.lacks (H : Sx w B s x NM L I Q V S P D D2) {k : BA} (h : ∀ p ∈ L, (I p).k ≠ k) : Dk.getE D.es k = none ∧ Dk.hasK D.es k = false := by
 have hn : k ∉ Dk.Ae D.es := fun hm => by
  have := (H.kp.map (·.1)).mem_iff.1 hm
  have e : (kents L I).map (·.1) = L.map fun p => (I p).k := keys_kents L I
  rw [e] at this
  obtain ⟨p, hp, e⟩ := List.mem_map.1 this
  exact h p hp e
 exact ⟨Dk.getE_none hn, Dk.hasK_no hn⟩
theorem In.mv (H : In w B s x NM L I Q V) {w' : World} {t : TypeId → Bool} (hm : Mv t w w') (ht : ∀ k, stag k = true → t k = false) : In w' B s x NM L I Q V := by
 obtain ⟨S, P, D, D2, H⟩ := H
 exact ⟨S, P, D, D2, H.mv hm ht⟩
theorem In.keep (H : In w B s x NM L I Q V) {w' : World} (hb : Below w.heap.size w w') : In w' B s x NM L I Q V := H.mv (t := fun _ => false) (Mv.of_below hb) (fun _ _ => rfl)
end
abbrev AbV (α : Type) := BA → Option (α × Option Int)
abbrev Ab := AbV (Option Addr)
structure Rep (L : List Nat) (I : Nat → Itm) (Q : List Nat) (A : Ab) : Prop where
 yes : ∀ p ∈ L, A (I p).k = some ((I p).v, if p ∈ Q then some (I p).u else none)
 no : ∀ k y, A k = some y → ∃ p ∈ L, (I p).k = k
def setA {α : Type} (A : AbV α) (k : BA) (y : Option (α × Option Int)) : AbV α := fun j => if j = k then y else A j
def incV (V : BA → Int) (k : BA) : BA → Int := fun j => if j = k then V j + 1 else V j
def dueA {α : Type} (A : AbV α) (t : Int) : AbV α := fun k => match A k with
 | some (v, some e) => if e ≤ t then none else some (v, some e)
 | r => r
def dueV {α : Type} (A : AbV α) (V : BA → Int) (t : Int) : BA → Int := fun k => match A k with
 | some (_, some e) => if e ≤ t then V k + 1 else V k
 | _ => V k
def Still {α : Type} (A : AbV α) (t : Int) : Prop := ∀ k v e, A k = some (v, some e) → t < e
theorem Still.due {α : Type} {A : AbV α} {t : Int} (h : Still A t) : dueA A t = A := by
 funext k
 unfold dueA
 split
 ·rename_i v e he
  rw [if_neg (by have := h k v e he; omega), he]
 ·rfl
theorem Still.dueV {α : Type} {A : AbV α} {t : Int} (h : Still A t) (V : BA → Int) : dueV A V t = V := by
 funext k
 unfold Sq.dueV
 split
 ·rename_i v e he
  rw [if_neg (by have := h k v e he; omega)]
 ·rfl
theorem dueA_still {α : Type} (A : AbV α) (t : Int) : Still (dueA A t) t := by
 intro k v e h
 unfold dueA at h
 split at h
 ·rename_i v' e' he
  split at h
  ·cases h
  ·injection h with h
   injection h with h1 h2
   injection h2 with h2
   omega
 ·rename_i h1
  exact absurd h (h1 v e)
theorem dueV_le {α : Type} (A : AbV α) (V : BA → Int) (t : Int) (k : BA) : V k ≤ dueV A V t k ∧ dueV A V t k ≤ V k + 1 := by
 unfold dueV
 split
 ·split <;> omega
 ·omega
def Spc (w : World) (B s x : Nat) (NM : List BA) (A : Ab) (V : BA → Int) : Prop := ∃ L I Q, In w B s x NM L I Q V ∧ Rep L I Q A
theorem Spc.mv {w w' : World} {B s x : Nat} {NM : List BA} {A : Ab} {V : BA → Int} (h : Spc w B s x NM A V) {t : TypeId → Bool} (hm : Mv t w w') (ht : ∀ k, stag k = true → t k = false) : Spc w' B s x NM A V := by
 obtain ⟨L, I, Q, h1, h2⟩ := h
 exact ⟨L, I, Q, h1.mv hm ht, h2⟩
theorem Spc.keep {w w' : World} {B s x : Nat} {NM : List BA} {A : Ab} {V : BA → Int} (h : Spc w B s x NM A V) (hb : Below w.heap.size w w') : Spc w' B s x NM A V := by
 obtain ⟨L, I, Q, h1, h2⟩ := h
 exact ⟨L, I, Q, h1.keep hb, h2⟩
structure To (w w' : World) (B s x : Nat) (NM : List BA) (A : Ab) (V : BA → Int) : Prop where
 mb : Mb stag B w w'
 spc : Spc w' B s x NM A V
theorem getE_put {es : List Zs.Dk.En} (hn : (Zs.Dk.Ae es).Nodup) (k j : BA) (v : Int) : Zs.Dk.getE (Zs.Dk.putE es k v) j = if j = k then v else Zs.Dk.getE es j := by
 by_cases hk : k ∈ Zs.Dk.Ae es
 ·obtain ⟨a, u, c, rfl⟩ := Zs.Dk.key_split hk
  rw [Zs.Dk.putE_old hn]
  obtain ⟨h1, h2⟩ := Zs.Dk.not_of_nodup hn
  have ha : a.find? (fun e => decide (e.1 = k)) = none := List.find?_eq_none.2 (fun e he hd => h1 (List.mem_map.2 ⟨e, he, of_decide_eq_true hd⟩))
  unfold Zs.Dk.getE
  rw [List.find?_append, List.find?_append]
  by_cases hj : j = k
  ·subst hj
   rw [ha, if_pos rfl]
   simp
  ·rw [if_neg hj]
   simp [Ne.symm hj]
 ·unfold Zs.Dk.putE
  rw [if_neg (by rw [Zs.Dk.hasK_no hk]; decide)]
  by_cases hj : j = k
  ·subst hj
   rw [if_pos rfl]
   have ha : es.find? (fun e => decide (e.1 = j)) = none := List.find?_eq_none.2 (fun e he hd => hk (List.mem_map.2 ⟨e, he, of_decide_eq_true hd⟩))
   unfold Zs.Dk.getE
   rw [List.find?_append, ha]
   simp
  ·rw [if_neg hj]
   unfold Zs.Dk.getE
   rw [List.find?_append]
   simp [Ne.symm hj]
theorem mem_put {es : List Zs.Dk.En} {k : BA} {v : Int} {e : Zs.Dk.En} (h : e ∈ Zs.Dk.putE es k v) : e.1 = k ∨ e ∈ es := by
 unfold Zs.Dk.putE at h
 split at h
 ·obtain ⟨e', he, rfl⟩ := List.mem_map.1 h
  by_cases hk : e'.1 = k
  ·rw [if_pos hk]; exact .inl rfl
  ·rw [if_neg hk]; exact .inr he
 ·rcases List.mem_append.1 h with h | h
  ·exact .inr h
  ·rw [List.mem_singleton] at h
   rw [h]; exact .inl rfl
section
variable {w : World} {B s x : Nat} {NM : List BA} {L : List Nat} {I : Nat → Itm} {Q : List Nat} {V : BA → Int} {S : Sd} {P : Nat → Int} {D : Dk.Dg} {D2 : Zs.Dk.Dg}
theorem Sx.turnV (H : Sx w B s x NM L I Q V S P D D2) {w' : World} {D3 : Zs.Dk.Dg} (hT : Zs.Dk.Turn w w' B S.v x D2 D3) {k : BA} (hk : k ∈ NM) (hp : D3.es.Perm (Zs.Dk.putE D2.es k (V k + 1))) : Sx w' B s x NM L I Q (incV V k) S P D D3 ∧ Mb stag B w w' := by
 have hm := hT.mv H.vd
 have hm' := ofE hm
 refine ⟨⟨H.sx, H.qs.mv hm' q_e, H.kd.mv hm' d_e, hT.dct, H.kp, fun j => ?_, fun e he => ?_, H.key, H.nm, H.sz⟩, Mb.mono ⟨hm', hT.below H.vd⟩ stag_e⟩
 ·rw [Zs.Dk.getE_perm hp hT.dct.nodk, getE_put H.vd.nodk, H.vp]
  unfold incV
  by_cases hj : j = k
  ·rw [if_pos hj, if_pos hj, hj]
  ·rw [if_neg hj, if_neg hj]
 ·rcases mem_put (hp.mem_iff.1 he) with h | h
  ·rw [h]; exact hk
  ·exact H.vn e h
end
theorem change_any (w : World) (B s x : Nat) (NM : List BA) (L : List Nat) (I : Nat → Itm) (Q : List Nat) (V : BA → Int) (hI : In w B s x NM L I Q V) (k : BA) (hk : k ∈ NM) (hv : 0 ≤ V k ∧ V k < 4611686018427387904) :
  Calls Tryz.prog 48 #[ptr s, .string k] w fun e w' => e = .returned (.tuple #[]) ∧ Mb stag B w w' ∧ In w' B s x NM L I Q (incV V k) := by
 obtain ⟨S, P, D, D2, hX⟩ := hI
 have HX : Hid (Sx w B s x NM L I Q V S P D D2) := hX
 have c5 := hX.cv
 have HG := Zs.Dk.GetD B S.v x D2 k w hX.vd (hX.mx hk)
 rw [hX.vp k] at HG
 clear hX
 obtain ⟨n, hn⟩ : ∃ n, V k = n := ⟨_, rfl⟩
 rw [hn] at HG hv
 have HN : Hid (V k = n) := hn
 clear hn
 have h1 := hv.1
 have h2 := hv.2
 clear hv
 go_enter Tryz.func48, Tryz.ntmps48
 go_wp2_with fail
 refine HG.mono ?_
 rintro e w1 ⟨rfl, hb⟩
 have hX1 := HX.out.keep hb
 have HM1 : Hid (Mb stag B w w1) := Mb.of_below hb (by have := HX.out.lt; omega)
 have c5' := hX1.cv
 have HP := Zs.Dk.PutD B S.v x D2 k (n + 1) w1 hX1.vd (hX1.mx hk) (by have := hX1.few2; omega)
 have HX1 : Hid (Sx w1 B s x NM L I Q V S P D D2) := hX1
 clear hX1 hb c5 HG
 go_wp2_with fail
 refine HP.mono ?_
 rintro e w2 ⟨rfl, D3, hT, hp⟩
 have HE : Hid (Mb stag B w w2 ∧ In w2 B s x NM L I Q (incV V k)) := by
  obtain ⟨k1, k2⟩ := HX1.out.turnV hT hk (by rw [HN.out]; exact hp)
  exact ⟨HM1.out.trans k2, S, P, D, D3, k1⟩
 clear hT hp HP c5'
 go_wp2
 go_end0
 exact ⟨rfl, HE.out⟩
end Go.Proofs.YtmjeljldmmkcpaaGreat.Sq
