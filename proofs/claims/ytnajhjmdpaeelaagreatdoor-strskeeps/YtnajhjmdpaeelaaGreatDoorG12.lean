/- Texts that the others stand on. -/
import Derived.Test.YtnajhjmdpaeelaaGreatDoorG11
namespace Go.Proofs.YtnajhjmdpaeelaaGreatDoor.Sq
open Go.RowKit Go.PlainAid
open Dk (ptr below_drewN alloc_below step_below add_flat OwnR OwnP OwnS Mv pcells Elt elt_of)
theorem eltI : Elt 73 70 1 8 := elt_of Tryz.underlying73 Tryz.infoI rfl (by decide)
/-- Until when, for one that stands in no queue. -/
theorem Qs.until {w : World} {B : Own} {s : Nat} {S : Sd} {L : List Nat} {I : Nat → Itm} {P : Nat → Int} {Q : List Nat} (H : Qs w B s S L I P Q) {p : Nat} (hp : p ∈ L) (hq : p ∉ Q) (n : Int) {w' : World} (hw : w' = w.setCell ⟨p, 2, none⟩ (.int .i64 n)) :
    Qs w' B s S L (upd I p { I p with u := n }) P Q ∧ Mb qtag B w w' := by
  have hI := H.its p hp
  obtain ⟨a, c, h1, h2, h2b⟩ := H.ex
  subst hw
  refine ⟨⟨⟨a, c, ?_, ?_, h2b⟩, H.its.until hp n, H.sub, H.plc, ?_, H.out, H.nod, H.low, H.few⟩, Mb.set hI.2 (by decide) hI.1⟩
  · rw [heap_ne (tag_ne h1 hI.2 (by decide))]; exact h1
  · refine OwnR.kept h2 fun k hk => heap_ne ?_
    obtain ⟨-, -, cur, h3⟩ := OwnR.lt h2 hk
    exact tag_ne h3 hI.2 (by decide)
  · intro i i0 hi
    have h3 : ∀ j, j < Q.length → un (upd I p { I p with u := n }) (at' Q j) = un I (at' Q j) := fun j hj => by
      show (upd I p { I p with u := n } (at' Q j)).u = _
      rw [upd_ne _ _ (fun e => hq (by rw [← e]; exact at_mem hj))]
    rw [h3 _ hi, h3 _ (by omega)]
    exact H.ord i i0 hi
theorem Qs.value {w : World} {B : Own} {s : Nat} {S : Sd} {L : List Nat} {I : Nat → Itm} {P : Nat → Int} {Q : List Nat} (H : Qs w B s S L I P Q) {p : Nat} (hp : p ∈ L) (n : Option Addr) {w' : World} (hw : w' = w.setCell ⟨p, 1, none⟩ (.pointer n)) :
    Qs w' B s S L (upd I p { I p with v := n }) P Q ∧ Mb qtag B w w' := by
  have hI := H.its p hp
  obtain ⟨a, c, h1, h2, h2b⟩ := H.ex
  subst hw
  have h3 : un (upd I p { I p with v := n }) = un I := by
    funext q
    show (upd I p { I p with v := n } q).u = (I q).u
    by_cases e : q = p
    · rw [e, upd_eq]
    · rw [upd_ne _ _ e]
  refine ⟨⟨⟨a, c, ?_, ?_, h2b⟩, H.its.value hp n, H.sub, H.plc, by rw [h3]; exact H.ord, H.out, H.nod, H.low, H.few⟩, Mb.set hI.2 (by decide) hI.1⟩
  · rw [heap_ne (tag_ne h1 hI.2 (by decide))]; exact h1
  · refine OwnR.kept h2 fun k hk => heap_ne ?_
    obtain ⟨-, -, cur, h3⟩ := OwnR.lt h2 hk
    exact tag_ne h3 hI.2 (by decide)
/-- The row has grown by one place, which is free. -/
theorem Qs.grow {w1 w2 w3 : World} {B : Own} {s : Nat} {S : Sd} {L : List Nat} {I : Nat → Itm} {P : Nat → Int} {Q : List Nat} (H : Qs w1 B s S L I P Q) {a a3 : Option Addr} {c n3 c3 : Nat} (h1 : w1.heap[s]? = some (.cells (scells S (.slice a Q.length c)) 77 (0, 0))) (h2 : OwnP w1 0 70 a Q.length c Q) (h2b : ∀ k, a.map (·.block) = some k → B k) (hup : Up B w1) (hgo : Dk.Goes w2 a a3) (hb : Below w1.heap.size w1 w2) (hg : w2.grownBy w3 (a.map (·.block))) (hO : OwnR w3 0 70 1 a3 n3 c3 (pcells Q ++ [.pointer none])) (hn : n3 = Q.length + 1) (hf : Q.length + 1 ≤ 1000000) :
    ∃ g, a3 = some ⟨g, 0, none⟩ ∧ w3.heap[s]? = some (.cells (scells S (.slice a Q.length c)) 77 (0, 0)) ∧ ∀ w4, w4 = w3.setCell ⟨s, 4, none⟩ (.slice (some ⟨g, 0, none⟩) n3 c3) → Hs w4 B s S g c3 L I P (Q ++ [0]) Q.length ∧ Mb qtag B w1 w4 := by
  have hrow : ∀ (k : Nat) (cs : Array Value) (t : TypeId), w1.heap[k]? = some (Obj.cells cs t (0, 0)) → t ≠ 70 → w3.heap[k]? = some (Obj.cells cs t (0, 0)) := fun k cs t hk ht => by
    have hlt := (Array.getElem?_eq_some_iff.1 hk).1
    rw [hg.block k (Nat.lt_of_lt_of_le hlt hb.size) (fun e => by
      obtain ⟨-, -, cur, h3⟩ := OwnR.lt h2 e.symm
      exact tag_ne hk h3 ht rfl), hb.block k hlt, hk]
  have hs3 := hrow s _ _ h1 (by decide)
  have hM : Mb qtag B w1 w3 := by
    refine ⟨⟨hg.os.trans hb.os, hg.tape.trans hb.tape, hg.output.trans hb.output, Nat.le_trans hb.size hg.size, fun k cs t hk ht => ?_⟩, ⟨hg.os.trans hb.os, hg.tape.trans hb.tape, hg.output.trans hb.output, Nat.le_trans hb.size hg.size, fun k hk hn => ?_⟩⟩
    · rw [hrow k cs t hk (fun e => by rw [e, qtagP] at ht; cases ht), hk]
    · rw [hg.block k (Nat.lt_of_lt_of_le hk hb.size) (fun e => hn (h2b k e.symm)), hb.block k hk]
  rcases hO.2 with ⟨h3, h4⟩ | ⟨g, c', cur, h3, h4, h5, h6, h7, h8, h9⟩
  · injection h3 with _ h5; omega
  · injection h3 with e1 e2 e3
    subst e1
    subst e3
    refine ⟨g, rfl, hs3, fun w4 hw => ?_⟩
    subst hw
    have hBg : B g := by
      rcases hgo with e | e
      · exact h2b g e.symm
      · injection e with e
        rw [show g = w2.heap.size from e]
        exact hup _ hb.size
    have hsg : s ≠ g := tag_ne hs3 h5 (by decide)
    have hl : (Q ++ [0]).length = Q.length + 1 := by simp
    refine ⟨⟨?_, ⟨⟨cur, ?_, by omega, fun i hi hne => ?_⟩, by omega, h7, hBg⟩, fun p hp => ⟨(H.its p hp).1, ?_⟩, fun i hi hne => ?_, fun i hi hne => ?_, H.low, by omega⟩, hM.trans (Mb.set hs3 (by decide) H.low)⟩
    · rw [heap_set hs3, hl, hn]; rfl
    · rw [heap_ne (Ne.symm hsg)]; exact h5
    · rw [hl] at hi
      have hi' : i < Q.length := by omega
      rw [at_left hi']
      have h10 := congrArg (fun l : List Value => l[i]?) h9
      replace h10 : (cur.toList.take (n3 * 1))[i]? = (pcells Q ++ [.pointer none])[i]? := h10
      rw [List.getElem?_take, if_pos (by omega), Array.getElem?_toList, List.getElem?_append_left (by unfold pcells; rw [List.length_map]; exact hi')] at h10
      rw [h10]
      unfold pcells
      rw [List.getElem?_map, at_some hi']
      rfl
    · rw [heap_ne (Ne.symm (tag_ne h1 (H.its p hp).2 (by decide)))]
      exact hrow p _ _ (H.its p hp).2 (by decide)
    · rw [hl] at hi
      have hi' : i < Q.length := by omega
      rw [at_left hi']
      exact H.sub _ (at_mem hi')
    · rw [hl] at hi
      have hi' : i < Q.length := by omega
      rw [at_left hi']
      exact H.plc i hi'
/-- What add leaves. -/
def AddTo (w w' : World) (B : Own) (s : Nat) (S : Sd) (L : List Nat) (I : Nat → Itm) (Q : List Nat) (p : Nat) (n : Int) : Prop := Mb qtag B w w' ∧ ∃ P' Q', Qs w' B s S L (upd I p { I p with u := n }) P' Q' ∧ ∀ q, q ∈ Q' ↔ q = p ∨ q ∈ Q
set_option maxRecDepth 100000 in
theorem add_any (w : World) (B : Own) (s : Nat) (S : Sd) (L : List Nat) (I : Nat → Itm) (P : Nat → Int) (Q : List Nat) (H : Qs w B s S L I P Q) (p : Nat) (hp : p ∈ L) (hq : p ∉ Q) (n : Int) (hup : Up B w) :
    Calls Tryz.prog 38 #[qp s, ptr p, .int .i64 n] w fun e w' => e = .returned (.tuple #[]) ∧ AddTo w w' B s S L I Q p n := by
  have f1 := H.its.cu hp
  have f2 := H.its.fz hp 2
  obtain ⟨w1, hw1⟩ : ∃ w1, w.setCell ⟨p, 2, none⟩ (.int .i64 n) = w1 := ⟨_, rfl⟩
  obtain ⟨hQ1, hM1⟩ := H.until hp hq n hw1.symm
  have hqn := H.plc.nod
  clear H
  obtain ⟨J, hJ⟩ : ∃ J, upd I p { I p with u := n } = J := ⟨_, rfl⟩
  rw [hJ] at hQ1
  have HJ : Hid (upd I p { I p with u := n } = J) := hJ
  clear hJ
  have HM1 : Hid (Mb qtag B w w1) := hM1
  have HQ1 : Hid (Qs w1 B s S L J P Q) := hQ1
  obtain ⟨a, c, h1, h2, h2b⟩ := hQ1.ex
  have e1 : w1.cell? ⟨s, 4, none⟩ = some (.slice a Q.length c) := by simp [World.cell?, h1]
  have hle : Q.length ≤ 1000000 := hQ1.le
  have HO : Hid (OwnP w1 0 70 a Q.length c Q) := h2
  have HOb : Hid (∀ k, a.map (·.block) = some k → B k) := h2b
  have HUp : Hid (Up B w1) := hup.mono hM1.mv.size
  have HB : Hid (w1.heap[s]? = some (.cells (scells S (.slice a Q.length c)) 77 (0, 0))) := h1
  clear h1 h2 h2b hup hQ1 hM1
  have hf : Q.length + 1 ≤ 1000000 := by
    have h3 := len_sub (Q := p :: Q) (List.nodup_cons.2 ⟨hq, hqn⟩) (fun q hq' => by
      rcases List.mem_cons.1 hq' with rfl | h4
      · exact hp
      · exact HQ1.out.sub q h4)
    rw [List.length_cons] at h3
    exact Nat.le_trans h3 HQ1.out.few
  go_enter Tryz.func38, Tryz.ntmps38
  go_wp2_with (at_builtin; refine Dk.append_r rfl (.tmp 14) (.tmp 15) rfl eltI 0 rfl (OwnR.keep HO.out (alloc_below w1 _)) [.pointer none] rfl rfl (by intro j u hu; cases j with | zero => (rw [add_flat]; simp only [World.cell?, heap_alloc_new]; exact hu) | succ j => simp at hu) (by simp [Value.oneCell']) (by decide) (by omega) (by unfold maxLen; omega) (Nat.zero_le _) ?_; intro a3 n3 c3 w3 hn3 HO3 HG3 HW3; obtain ⟨g, rfl, hs3, hgr⟩ := HQ1.out.grow HB.out HO.out HOb.out HUp.out HW3.out (alloc_below w1 _) HG3.out HO3.out hn3 hf; have m1 : w3.cell? ⟨s, 4, none⟩ = some (.slice a Q.length c) := (by simp [World.cell?, hs3]); have m2 : w3.frozen? ⟨s, 4, none⟩ = false := (by simp [World.frozen?, hs3]); have HGr : Hid (∀ w4, w4 = w3.setCell ⟨s, 4, none⟩ (.slice (some ⟨g, 0, none⟩) n3 c3) → Hs w4 B s S g c3 L J P (Q ++ [0]) Q.length ∧ Mb qtag B w1 w4) := hgr; clear hgr hs3 HO3 HG3 HW3)
  subst hn3
  obtain ⟨w4, hw4⟩ : ∃ w4, w3.setCell ⟨s, 4, none⟩ (.slice (some ⟨g, 0, none⟩) (Q.length + 1) c3) = w4 := ⟨_, rfl⟩
  rw [hw4]
  obtain ⟨hH4, hM4⟩ := HGr.out w4 hw4.symm
  have hl : (Q ++ [0]).length = Q.length + 1 := by simp
  have hset : (Q ++ [0]).set Q.length p = Q ++ [p] := by rw [List.set_append_right _ _ (Nat.le_refl _), Nat.sub_self]; rfl
  have hW : Way w4 w4 B s S g c3 L J P (Q ++ [0]) Q.length p P (Q ++ [0]) Q.length := by
    refine ⟨hH4, HQ1.out.ord.more 0, by omega, fun i hi hne e => ?_, List.Perm.refl _, fun _ _ => rfl, Mb.refl _ _ _⟩
    have hi' : i < Q.length := by omega
    rw [at_left hi'] at e
    exact hq (by rw [← e]; exact at_mem hi')
  have HM4 : Hid (Mb qtag B w w4) := HM1.out.trans hM4
  refine (rise_any w4 B s S g c3 L J P (Q ++ [0]) Q.length p hW hp).mono ?_
  rintro e w5 ⟨rfl, P', Q', h', hF, hlt, hat, hpl, hgap, hah, hk⟩
  have HE : Hid (AddTo w w5 B s S L I Q p n) := by
    have hpm := hF.perm
    have ho := hF.out
    rw [hset] at hpm ho
    have hmem : ∀ q, q ∈ Q' ↔ q = p ∨ q ∈ Q := fun q => by
      rw [hpm.mem_iff, List.mem_append, List.mem_singleton, or_comm]
    refine ⟨HM4.out.trans hF.mv, P', Q', ?_, hmem⟩
    rw [HJ.out]
    refine hF.hs.qs (hk fun i i0 hi hpar => by omega) (fun q hq' hqn => ?_) HQ1.out.nod HQ1.out.few
    rw [ho q (fun h => hqn (hpm.mem_iff.2 h))]
    exact HQ1.out.out q hq' (fun h => hqn ((hmem q).2 (.inr h)))
  clear hF hlt hat hpl hgap hah hk hW hH4 hM4
  go_wp2
  go_end0
  exact ⟨rfl, HE.out⟩
theorem newItem_any (w : World) (k : ByteArray) :
    Calls Tryz.prog 79 #[.string k] w fun e w' => e = .returned (ptr w.heap.size) ∧ w' = w.alloc (.cells (icells ⟨k, none, 0⟩ (-1)) 100) := by
  go_enter Tryz.func79, Tryz.ntmps79
  go_wp2
  go_ret
  exact ⟨rfl, rfl⟩
/-- A new item comes to those that stand in no queue. -/
theorem Qs.more {w : World} {B : Own} {s : Nat} {S : Sd} {L : List Nat} {I : Nat → Itm} {P : Nat → Int} {Q : List Nat} (H : Qs w B s S L I P Q) (i : Itm) (hf : L.length + 1 ≤ 1000000) (hup : Up B w) {w' : World} (hw : w' = w.alloc (.cells (icells i (-1)) 100)) :
    Qs w' B s S (w.heap.size :: L) (upd I w.heap.size i) (upd P w.heap.size (-1)) Q ∧ w.heap.size ∉ L := by
  have hb : Below w.heap.size w w' := by rw [hw]; exact alloc_below w _
  have hn : w.heap.size ∉ L := fun h => by have := H.its.lt h; omega
  have hnq : w.heap.size ∉ Q := fun h => hn (H.sub _ h)
  have H1 := H.keep hb
  obtain ⟨a, c, h1, h2, h2b⟩ := H1.ex
  have hB : B w.heap.size := hup _ (Nat.le_refl _)
  refine ⟨⟨⟨a, c, h1, h2, h2b⟩, fun p hp => ?_, fun p hp => List.mem_cons_of_mem _ (H.sub p hp), fun j hj => ?_, fun j j0 hj => ?_, fun p hp hpq => ?_, List.nodup_cons.2 ⟨hn, H.nod⟩, H.low, by rw [List.length_cons]; exact hf⟩, hn⟩
  · rcases List.mem_cons.1 hp with rfl | hp
    · refine ⟨hB, ?_⟩
      rw [upd_eq, upd_eq, hw]
      exact heap_alloc_new w _
    · have hne : p ≠ w.heap.size := fun e => hn (by rw [← e]; exact hp)
      rw [upd_ne _ _ hne, upd_ne _ _ hne]
      exact H1.its p hp
  · rw [upd_ne _ _ (fun e => hnq (by rw [← e]; exact at_mem hj))]
    exact H.plc j hj
  · have h3 : ∀ j, j < Q.length → un (upd I w.heap.size i) (at' Q j) = un I (at' Q j) := fun j hj => by
      show (upd I w.heap.size i (at' Q j)).u = _
      rw [upd_ne _ _ (fun e => hnq (by rw [← e]; exact at_mem hj))]
    rw [h3 _ hj, h3 _ (by omega)]
    exact H.ord j j0 hj
  · rcases List.mem_cons.1 hp with rfl | hp
    · rw [upd_eq]
    · rw [upd_ne _ _ (fun e => hn (by rw [← e]; exact hp))]
      exact H.out p hp hpq
/-- An item is let go. -/
theorem Qs.less {w : World} {B : Own} {s : Nat} {S : Sd} {L : List Nat} {I : Nat → Itm} {P : Nat → Int} {Q : List Nat} (H : Qs w B s S L I P Q) {p : Nat} (hq : p ∉ Q) : Qs w B s S (L.erase p) I P Q :=
  ⟨H.ex, fun q h => H.its q (List.mem_of_mem_erase h), fun q h => (List.mem_erase_of_ne (fun e => hq (by rw [← e]; exact h))).2 (H.sub q h), H.plc, H.ord, fun q h hn => H.out q (List.mem_of_mem_erase h) hn, H.nod.erase p, H.low, Nat.le_trans List.length_erase_le H.few⟩
end Go.Proofs.YtnajhjmdpaeelaaGreatDoor.Sq
