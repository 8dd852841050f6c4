/- Texts that the others stand on. -/
import Derived.Test.YtmjeljldmmkcpabGreatG18
import Derived.Lib.Builder
namespace Go.Proofs.YtmjeljldmmkcpabGreat.Sq
open Go.RowKit Go.PlainAid
open Dk (ptr below_drewN alloc_below step_below add_flat OwnR OwnP OwnS Mv pcells Elt elt_of)
theorem at_left {D : List Nat} {l i : Nat} (h : i < D.length) : at' (D ++ [l]) i = at' D i := by
  unfold at'
  rw [List.getD_eq_getElem?_getD, List.getD_eq_getElem?_getD, List.getElem?_append_left h]
theorem at_last (D : List Nat) (l : Nat) : at' (D ++ [l]) D.length = l := by
  unfold at'
  rw [List.getD_eq_getElem?_getD]
  simp
theorem set_at {Q : List Nat} {h : Nat} (hl : h < Q.length) : Q.set h (at' Q h) = Q := by
  unfold at'
  rw [List.getD_eq_getElem?_getD, List.getElem?_eq_getElem hl]
  exact List.set_getElem_self hl
theorem mem_swap {P : Nat → Int} {D : List Nat} {l j : Nat} (hn : Plcs P (D ++ [l])) (hj : j < D.length) (q : Nat) : q ∈ D.set j l ↔ q ≠ at' D j ∧ q ∈ D ++ [l] := by
  have hl : (D ++ [l]).length = D.length + 1 := by simp
  constructor
  · intro h
    rcases mem_set hj h with rfl | ⟨i, hi, hne, rfl⟩
    · refine ⟨fun e => ?_, by simp⟩
      have := hn.inj (i := D.length) (j := j) (by omega) (by omega) (by rw [at_last, at_left hj]; exact e)
      omega
    · refine ⟨fun e => ?_, List.mem_append_left _ (at_mem hi)⟩
      exact hne (hn.inj (i := i) (j := j) (by omega) (by omega) (by rw [at_left hi, at_left hj]; exact e))
  · rintro ⟨h1, h2⟩
    rcases List.mem_append.1 h2 with h2 | h2
    · obtain ⟨i, hi, rfl⟩ := at_ex h2
      have hne : i ≠ j := fun e => h1 (by rw [e])
      have := at_mem (Q := D.set j l) (i := i) (by rw [List.length_set]; exact hi)
      rw [at_ne hne] at this
      exact this
    · rw [List.mem_singleton] at h2
      subst h2
      have := at_mem (Q := D.set j q) (i := j) (by rw [List.length_set]; exact hj)
      rw [at_eq rfl hj] at this
      exact this
theorem Tryz.sizeI (w : World) : (sizeOf 56).run Tryz.prog w = .ok 1 w := by go_simp
theorem Tryz.elemI : Tryz.prog.elem 59 = 56 := by simp [Program.elem, Tryz.underlying59]
theorem slice_hi (g n c hi : Nat) (h1 : hi ≤ c) :
    ∀ wx, (Instr.sliceAt 59 (.slice (some ⟨g, 0, none⟩) n c) none (some (.int .i64 hi)) none).run Tryz.prog wx = .ok (.slice (some ⟨g, 0, none⟩) hi c) wx := by
  have ht : Tryz.prog.underlying 59 = some (.slice (Tryz.prog.elem 59)) := by rw [Tryz.elemI]; exact Tryz.underlying59
  intro wx
  rw [run_sliceAt_slice _ _ _ _ _ _ ht, run_slice_h (P := Tryz.prog) wx 59 _ n c ht .i64 hi (by omega) (by omega), Tryz.elemI, Tryz.sizeI]
  simp [Result.andThen, sliced, add_flat]
theorem Tryz.infoI : (Tryz.prog.info? 56).map (fun i => (i.zero, i.size, i.bytes)) = some (some (.pointer none), 1, 8) := by kernel_rfl
theorem Tryz.infoJ : (Tryz.prog.info? 86).map (fun i => i.size) = some 4 := by kernel_rfl
theorem infoJ_ex : ∃ j, Tryz.prog.info? 86 = some j ∧ j.size ≠ 0 := by
  have h := Tryz.infoJ
  cases hj : Tryz.prog.info? 86 with
  | none => rw [hj] at h; cases h
  | some j =>
    rw [hj] at h
    refine ⟨j, rfl, ?_⟩
    have : j.size = 4 := Option.some.inj h
    omega
theorem neqI_same (w : World) (k : Nat) : (binOp .neq 56 (ptr k) (ptr k)).run Tryz.prog w = .ok (.bool false) w := by
  obtain ⟨j, hj, -⟩ := infoJ_ex
  exact Lib.run_neq_ptr_same w ⟨k, 0, none⟩ Tryz.underlying56 hj
theorem neqI_other {w : World} {k q : Nat} {ca cb : Array Value} {ta tb : TypeId} (h : k ≠ q) (ha : w.heap[k]? = some (.cells ca ta (0, 0))) (hb : w.heap[q]? = some (.cells cb tb (0, 0))) : (binOp .neq 56 (ptr k) (ptr q)).run Tryz.prog w = .ok (.bool true) w := by
  obtain ⟨j, hj, hs⟩ := infoJ_ex
  have hne : (⟨k, 0, none⟩ : Addr) ≠ ⟨q, 0, none⟩ := by intro e; injection e with e1; exact h e1
  have hh : ∀ d : Nat, (Op.equalIn (d + 1) 56 (ptr k) (ptr q)).run Tryz.prog w = .ok false w := fun d => by
    simp [Op.equalIn, run_underlying Tryz.underlying56, sizeOf, typeInfo, hj, hs, run_sameAddr_other w hne ha hb]
  simp only [binOp]
  simp [Op.equal, Op.maxDepth, hh 9999]
/-- A bool came back that tells whether this holds. -/
def Tells (e : Ending) (P : Prop) : Prop := ∃ r : Bool, e = .returned (.bool r) ∧ (r = true ↔ P)
theorem Tells.yes {P : Prop} (h : P) : Tells (.returned (.bool true)) P := ⟨true, rfl, fun _ => h, fun _ => rfl⟩
theorem Tells.no {P : Prop} (h : ¬ P) : Tells (.returned (.bool false)) P := ⟨false, rfl, fun h1 => (by cases h1), fun h1 => absurd h1 h⟩
theorem isDue_any (w : World) (B s : Nat) (S : Sd) (L : List Nat) (I : Nat → Itm) (P : Nat → Int) (Q : List Nat) (H : Qs w B s S L I P Q) (t : Int) :
    Calls Tryz.prog 62 #[qp s, .int .i64 t] w fun e w' => w' = w ∧ Tells e (0 < Q.length ∧ (I (at' Q 0)).u ≤ t) := by
  obtain ⟨a, c, e1⟩ := H.head
  have hle := H.le
  by_cases h0 : 0 < Q.length
  · obtain ⟨g, c', hH⟩ := H.hs h0 Q.length
    have HF := first_any w B s S g c' L I P Q Q.length hH h0 (by omega)
    have e3 := H.its.cu (H.sub _ (at_mem h0))
    have hz : (0 : Int) < Q.length := by omega
    clear hH H
    generalize at' Q 0 = p at HF e3 ⊢
    generalize Q.length = n at e1 h0 hz hle ⊢
    by_cases hu : (I p).u ≤ t
    · have HU : Hid ((I p).u ≤ t) := hu
      have hd : decide ((I p).u ≤ t) = true := decide_eq_true hu
      clear hu
      generalize (I p).u = u at *
      go_enter Tryz.func62, Tryz.ntmps62
      go_wp2_with fail
      refine HF.mono ?_
      rintro e w ⟨rfl, rfl⟩
      go_wp2
      go_ret
      exact ⟨rfl, Tells.yes ⟨h0, HU.out⟩⟩
    · have HU : Hid (t < (I p).u) := Int.not_le.1 hu
      have hd : decide ((I p).u ≤ t) = false := decide_eq_false hu
      clear hu
      generalize (I p).u = u at *
      go_enter Tryz.func62, Tryz.ntmps62
      go_wp2_with fail
      refine HF.mono ?_
      rintro e w ⟨rfl, rfl⟩
      go_wp2
      go_ret
      exact ⟨rfl, Tells.no fun h => absurd h.2 (Int.not_le.2 HU.out)⟩
  · have hn : Q.length = 0 := by omega
    rw [hn] at e1
    clear H
    go_enter Tryz.func62, Tryz.ntmps62
    go_wp2
    go_ret
    exact ⟨rfl, Tells.no fun h => absurd h.1 h0⟩
/-- The row without its last. -/
theorem Hs.cut {w : World} {B s : Nat} {S : Sd} {g c : Nat} {L : List Nat} {I : Nat → Itm} {P : Nat → Int} {D : List Nat} {l h : Nat} (H : Hs w B s S g c L I P (D ++ [l]) (D ++ [l]).length) {w2 : World} (hw : w2 = (w.setCell ⟨g, D.length, none⟩ (.pointer none)).setCell ⟨s, 4, none⟩ (.slice (some ⟨g, 0, none⟩) D.length c)) :
    Hs w2 B s S g c L I P D h ∧ Mb qtag B w w2 := by
  obtain ⟨cur, k1, k2, k3⟩ := H.row.ex
  have hl : (D ++ [l]).length = D.length + 1 := by simp
  have hsg : s ≠ g := tag_ne H.blk k1 (by decide)
  have n1 : (w.setCell ⟨g, D.length, none⟩ (.pointer none)).heap[s]? = some (.cells (scells S (.slice (some ⟨g, 0, none⟩) (D ++ [l]).length c)) 63 (0, 0)) := by rw [heap_ne hsg]; exact H.blk
  subst hw
  refine ⟨⟨?_, ⟨⟨cur.setIfInBounds D.length (.pointer none), ?_, by rw [Array.size_setIfInBounds]; exact k2, ?_⟩, by have := H.row.le; omega, H.row.mx, H.row.low⟩, ?_, ?_, ?_, H.low, by have := H.few; omega⟩, (Mb.set k1 (by decide) H.row.low).trans (Mb.set n1 (by decide) H.low)⟩
  · rw [heap_set n1]; rfl
  · rw [heap_ne (Ne.symm hsg), heap_set k1]
  · intro i hi _
    rw [Array.getElem?_setIfInBounds_ne (by omega), k3 i (by omega) (by omega), at_left hi]
  · intro p hp
    refine ⟨(H.its p hp).1, ?_⟩
    rw [heap_ne (Ne.symm (tag_ne H.blk (H.its p hp).2 (by decide))), heap_ne (Ne.symm (tag_ne k1 (H.its p hp).2 (by decide)))]
    exact (H.its p hp).2
  · intro i hi _
    have := H.sub i (by omega) (by omega)
    rwa [at_left hi] at this
  · intro i hi _
    have := H.plc i (by omega) (by omega)
    rwa [at_left hi] at this
/-- What drop leaves. -/
def DropTo (w w' : World) (B s : Nat) (S : Sd) (L : List Nat) (I : Nat → Itm) (Q : List Nat) (p : Nat) : Prop := Mb qtag B w w' ∧ ∃ P' Q', Qs w' B s S L I P' Q' ∧ ∀ q, q ∈ Q' ↔ q ≠ p ∧ q ∈ Q
theorem drop_no (w : World) (B s : Nat) (S : Sd) (L : List Nat) (I : Nat → Itm) (P : Nat → Int) (Q : List Nat) (H : Qs w B s S L I P Q) (p : Nat) (hp : p ∈ L) (hq : p ∉ Q) :
    Calls Tryz.prog 35 #[qp s, ptr p] w fun e w' => e = .returned (.tuple #[]) ∧ w' = w := by
  have e1 := H.its.cp hp
  rw [H.out p hp hq] at e1
  have HT := isTimed_any w p _ e1
  rw [decide_eq_false (by decide)] at HT
  clear H
  go_enter Tryz.func35, Tryz.ntmps35
  go_wp2_with fail
  refine HT.mono ?_
  rintro e w ⟨rfl, rfl⟩
  go_wp2
  (try simp only [Exit.inBlock, Exit.then])
  refine bodyPost_ret (results_none rfl _ _ _) rfl ?_
  exact ⟨rfl, rfl⟩
/-- The item's place is taken away at the end. -/
theorem Fin.away {w0 w : World} {B s : Nat} {S : Sd} {g c : Nat} {L : List Nat} {I : Nat → Itm} {P0 P : Nat → Int} {Q0 Q : List Nat} {h0 it p : Nat} (F : Fin w0 w B s S g c L I P0 Q0 h0 it P Q) (ho : Ord (un I) Q) (hp : p ∈ L) (hpn : p ∉ Q0.set h0 it) (hout : ∀ q ∈ L, q ∉ Q0.set h0 it → q ≠ p → P0 q = -1) (hn : L.Nodup) (hf : L.length ≤ 1000000) {w' : World} (hw : w' = w.setCell ⟨p, 3, none⟩ (.int .i64 (-1))) : Qs w' B s S L I (upd P p (-1)) Q ∧ Mb qtag B w0 w' := by
  have hI := F.hs.its p hp
  have hpq : p ∉ Q := fun h => hpn (F.perm.mem_iff.1 h)
  obtain ⟨cur, k1, k2⟩ := F.hs.row.ex
  subst hw
  have h1 : Hs (w.setCell ⟨p, 3, none⟩ (.int .i64 (-1))) B s S g c L I (upd P p (-1)) Q Q.length := by
    refine ⟨?_, ⟨⟨cur, ?_, k2⟩, F.hs.row.le, F.hs.row.mx, F.hs.row.low⟩, F.hs.its.place hp (-1), F.hs.sub, fun i hi hne => ?_, F.hs.low, F.hs.few⟩
    · rw [heap_ne (tag_ne F.hs.blk hI.2 (by decide))]; exact F.hs.blk
    · rw [heap_ne (tag_ne k1 hI.2 (by decide))]; exact k1
    · rw [upd_ne]
      · exact F.hs.plc i hi hne
      · exact fun e => hpq (by rw [← e]; exact at_mem hi)
  refine ⟨h1.qs ho (fun q hq hqn => ?_) hn hf, F.mv.trans (Mb.set hI.2 (by decide) hI.1)⟩
  by_cases e : q = p
  · rw [e, upd_eq]
  · rw [upd_ne _ _ e]
    have hqn' : q ∉ Q0.set h0 it := fun h => hqn (F.perm.mem_iff.2 h)
    rw [F.out q hqn']
    exact hout q hq hqn' e
set_option maxRecDepth 100000 in
theorem drop_yes (w : World) (B s : Nat) (S : Sd) (L : List Nat) (I : Nat → Itm) (P : Nat → Int) (Q : List Nat) (H : Qs w B s S L I P Q) (p : Nat) (hp : p ∈ L) (hq : p ∈ Q) :
    Calls Tryz.prog 35 #[qp s, ptr p] w fun e w' => e = .returned (.tuple #[]) ∧ DropTo w w' B s S L I Q p := by
  have h0 : 0 < Q.length := List.length_pos_of_mem hq
  obtain ⟨j, hj, hjp⟩ := at_ex hq
  have hpj := H.plc j hj
  rw [hjp] at hpj
  have e1 := H.its.cp hp
  rw [hpj] at e1
  have HT := isTimed_any w p _ e1
  rw [decide_eq_true (by omega)] at HT
  obtain ⟨g, c, hH⟩ := H.hs h0 Q.length
  obtain ⟨D, l, rfl⟩ : ∃ D l, Q = D ++ [l] := ⟨Q.dropLast, Q.getLast (by intro e; rw [e] at h0; simp at h0), (List.dropLast_concat_getLast _).symm⟩
  have hlen : (D ++ [l]).length = D.length + 1 := by simp
  have HQ : Hid (Qs w B s S L I P (D ++ [l])) := H
  have hl : l ∈ L := H.sub l (by simp)
  have e2 := hH.head
  have e3 := hH.cell (i := D.length) (by omega) (by omega)
  rw [at_last] at e3
  have e4 := hH.fz D.length
  obtain ⟨n, hn⟩ : ∃ n, D.length = n := ⟨_, rfl⟩
  have hfew := hH.few
  have hc := hH.row.le
  rw [hlen] at e2 hfew hc hj
  obtain ⟨cur, k1, -⟩ := hH.row.ex
  obtain ⟨w1, hw1⟩ : ∃ w1, w.setCell ⟨g, n, none⟩ (.pointer none) = w1 := ⟨_, rfl⟩
  obtain ⟨w2, hw2⟩ : ∃ w2, w1.setCell ⟨s, 4, none⟩ (.slice (some ⟨g, 0, none⟩) n c) = w2 := ⟨_, rfl⟩
  have hs1 : w1.heap[s]? = some (.cells (scells S (.slice (some ⟨g, 0, none⟩) (D.length + 1) c)) 63 (0, 0)) := by
    rw [← hw1, heap_ne (tag_ne hH.blk k1 (by decide)), hH.blk, hlen]
  have f1 : w1.cell? ⟨s, 4, none⟩ = some (.slice (some ⟨g, 0, none⟩) (D.length + 1) c) := by simp [World.cell?, hs1]
  have f2 : w1.frozen? ⟨s, 4, none⟩ = false := by simp [World.frozen?, hs1]
  have hcut := fun h => hH.cut (h := h) (w2 := w2) (by rw [← hw2, ← hw1, hn])
  have hsl := slice_hi g (n + 1) c n (by omega)
  rw [hn] at e2 e3 e4 f1 hj hfew hc
  have HC : Hid (∀ h, Hs w2 B s S g c L I P D h ∧ Mb qtag B w w2) := hcut
  have HPl : Hid (at' (D ++ [l]) j = p) := hjp
  have HN : Hid (D.length = n) := hn
  clear hcut hjp hn hs1 k1 hH H hpj
  have g1 := (HC.out (n + 1)).1.its.cp hp
  rw [show P p = j from by have := HQ.out.plc j (by rw [hlen, HN.out]; omega); rw [HPl.out] at this; exact this] at g1
  have g3 := (HC.out (n + 1)).1.its.fz hp 3
  have hnz : ((n : Nat) : Int) + 1 - 1 = n := by omega
  by_cases hlp : l = p
  · subst hlp
    have hnq := neqI_same w2 l
    have HE : Hid (DropTo w (w2.setCell ⟨l, 3, none⟩ (.int .i64 (-1))) B s S L I (D ++ [l]) l) := by
      obtain ⟨h1, h2⟩ := HC.out D.length
      have hnd := HQ.out.plc.nod
      rw [List.nodup_append] at hnd
      have hld : l ∉ D := fun h => hnd.2.2 l h l (by simp) rfl
      have hI := h1.its l hl
      obtain ⟨cur2, k1, k2⟩ := h1.row.ex
      refine ⟨h2.trans (Mb.set hI.2 (by decide) hI.1), upd P l (-1), D, ?_, fun q => ⟨fun h => ⟨fun e => hld (by rw [← e]; exact h), List.mem_append_left _ h⟩, fun h => ?_⟩⟩
      · refine Hs.qs (g := g) (c := c) ⟨?_, ⟨⟨cur2, ?_, k2⟩, h1.row.le, h1.row.mx, h1.row.low⟩, h1.its.place hl (-1), h1.sub, fun i hi hne => ?_, h1.low, h1.few⟩ HQ.out.ord.cut (fun q hq hqn => ?_) HQ.out.nod HQ.out.few
        · rw [heap_ne (tag_ne h1.blk hI.2 (by decide))]; exact h1.blk
        · rw [heap_ne (tag_ne k1 hI.2 (by decide))]; exact k1
        · rw [upd_ne]
          · exact h1.plc i hi hne
          · exact fun e => hld (by rw [← e]; exact at_mem hi)
        · by_cases e : q = l
          · rw [e, upd_eq]
          · rw [upd_ne _ _ e]
            exact HQ.out.out q hq (fun h => (List.mem_append.1 h).elim hqn (fun h => e (List.mem_singleton.1 h)))
      · rcases List.mem_append.1 h.2 with h3 | h3
        · exact h3
        · exact absurd (List.mem_singleton.1 h3) h.1
    go_enter Tryz.func35, Tryz.ntmps35
    go_wp2_with fail
    refine HT.mono ?_
    rintro e w ⟨rfl, rfl⟩
    go_wp2
    go_end0
    exact ⟨rfl, HE.out⟩
  · have hjn : j < n := by
      rcases Nat.lt_or_ge j n with h | h
      · exact h
      · exfalso
        obtain rfl : j = n := by omega
        have := HPl.out
        rw [← HN.out, at_last] at this
        exact hlp this
    have HI2 := fun q (hq : q ∈ L) => (HC.out j).1.its q hq
    have hnq := neqI_other hlp (HI2 l hl).2 (HI2 p hp).2
    have HW0 : Hid (Way w2 w2 B s S g c L I P D j l P D j) := by
      obtain ⟨h1, h2⟩ := HC.out j
      refine ⟨h1, HQ.out.ord.cut.gapAt j (by rw [HN.out]; exact hjn), by rw [HN.out]; exact hjn, fun i hi _ e => ?_, List.Perm.refl _, fun _ _ => rfl, Mb.refl _ _ _⟩
      have h3 := HQ.out.plc.inj (i := i) (j := D.length) (by rw [hlen]; omega) (by rw [hlen]; omega) (by rw [at_left hi, at_last]; exact e)
      omega
    have HR := rise_any w2 B s S g c L I P D j l HW0.out hl
    have HL : Hid (l ≠ p) := hlp
    clear HI2 hlp
    go_enter Tryz.func35, Tryz.ntmps35
    go_wp2_with fail
    refine HT.mono ?_
    rintro e w ⟨rfl, rfl⟩
    go_wp2_with fail
    refine HR.mono ?_
    rintro e w3 ⟨rfl, P', Q', h', hF, hlt, hat, hpl, hgap, hah, -⟩
    have HF : Hid (Fin w2 w3 B s S g c L I P D j l P' Q') := hF
    have m1 := hF.hs.its.cp hl
    rw [hpl] at m1
    have hset : Q'.set h' l = Q' := by rw [← hat]; exact set_at hlt
    have HSet : Hid (Q'.set h' l = Q') := hset
    have hW1 : Way w3 w3 B s S g c L I P' Q' h' l P' Q' h' := by
      refine ⟨⟨hF.hs.blk, ?_, hF.hs.its, fun i hi _ => hF.hs.sub i hi (by omega), fun i hi _ => hF.hs.plc i hi (by omega), hF.hs.low, hF.hs.few⟩, hgap, hlt, fun i hi hne e => ?_, List.Perm.refl _, fun _ _ => rfl, Mb.refl _ _ _⟩
      · obtain ⟨cur, k1, k2, k3⟩ := hF.hs.row.ex
        exact ⟨⟨cur, k1, k2, fun i hi _ => k3 i hi (by omega)⟩, hF.hs.row.le, hF.hs.row.mx, hF.hs.row.low⟩
      · have h3 := hF.hs.plc i hi (by omega)
        rw [e, hpl] at h3
        omega
    have HS := sink_any w3 B s S g c L I P' Q' h' l hW1 hah hl
    clear hF hgap hah hlt hat hpl hset hW1 HR hnq
    go_wp2_with fail
    refine HS.mono ?_
    rintro e w4 ⟨rfl, P2, Q2, hF2, hord⟩
    have hF3 := HF.out.ofWay hF2 HSet.out
    have m3 := hF3.hs.its.cp hp
    have m4 := hF3.hs.its.fz hp 3
    have HE : Hid (DropTo w (w4.setCell ⟨p, 3, none⟩ (.int .i64 (-1))) B s S L I (D ++ [l]) p) := by
      have hjD : j < D.length := by rw [HN.out]; exact hjn
      have hpe : at' D j = p := by have := HPl.out; rwa [at_left hjD] at this
      have hsw := mem_swap HQ.out.plc hjD
      rw [hpe] at hsw
      obtain ⟨k1, k2⟩ := hF3.away hord hp (fun h => ((hsw p).1 h).1 rfl) (fun q hq hqn hqp => HQ.out.out q hq (fun h => hqn ((hsw q).2 ⟨hqp, h⟩))) HQ.out.nod HQ.out.few rfl
      exact ⟨(HC.out j).2.trans k2, _, Q2, k1, fun q => (hF3.perm.mem_iff).trans (hsw q)⟩
    clear hF2 hord hF3 HS m1
    go_wp2
    go_end0
    exact ⟨rfl, HE.out⟩
theorem drop_any (w : World) (B s : Nat) (S : Sd) (L : List Nat) (I : Nat → Itm) (P : Nat → Int) (Q : List Nat) (H : Qs w B s S L I P Q) (p : Nat) (hp : p ∈ L) :
    Calls Tryz.prog 35 #[qp s, ptr p] w fun e w' => e = .returned (.tuple #[]) ∧ DropTo w w' B s S L I Q p := by
  by_cases hq : p ∈ Q
  · exact drop_yes w B s S L I P Q H p hp hq
  · refine (drop_no w B s S L I P Q H p hp hq).mono ?_
    rintro e w' ⟨rfl, rfl⟩
    exact ⟨rfl, Mb.refl _ _ _, P, Q, H, fun q => ⟨fun h => ⟨fun e => hq (by rw [← e]; exact h), h⟩, fun h => h.2⟩⟩
theorem eltI : Elt 59 56 1 8 := elt_of Tryz.underlying59 Tryz.infoI rfl (by decide)
/-- Until when, for one that stands in no queue. -/
theorem Qs.until {w : World} {B s : Nat} {S : Sd} {L : List Nat} {I : Nat → Itm} {P : Nat → Int} {Q : List Nat} (H : Qs w B s S L I P Q) {p : Nat} (hp : p ∈ L) (hq : p ∉ Q) (n : Int) {w' : World} (hw : w' = w.setCell ⟨p, 2, none⟩ (.int .i64 n)) :
    Qs w' B s S L (upd I p { I p with u := n }) P Q ∧ Mb qtag B w w' := by
  have hI := H.its p hp
  obtain ⟨a, c, h1, h2⟩ := H.ex
  subst hw
  refine ⟨⟨⟨a, c, ?_, ?_⟩, H.its.until hp n, H.sub, H.plc, ?_, H.out, H.nod, H.low, H.few⟩, Mb.set hI.2 (by decide) hI.1⟩
  · rw [heap_ne (tag_ne h1 hI.2 (by decide))]; exact h1
  · refine OwnR.kept h2 fun k hk => heap_ne ?_
    obtain ⟨-, -, cur, h3⟩ := OwnR.lt h2 hk
    exact tag_ne h3 hI.2 (by decide)
  · intro i i0 hi
    have h3 : ∀ j, j < Q.length → un (upd I p { I p with u := n }) (at' Q j) = un I (at' Q j) := fun j hj => by
      show (upd I p { I p with u := n } (at' Q j)).u = _
      rw [upd_ne _ _ (fun e => hq (by rw [← e]; exact at_mem hj))]
    rw [h3 _ hi, h3 _ (by omega)]
    exact H.ord i i0 hi
theorem Qs.value {w : World} {B s : Nat} {S : Sd} {L : List Nat} {I : Nat → Itm} {P : Nat → Int} {Q : List Nat} (H : Qs w B s S L I P Q) {p : Nat} (hp : p ∈ L) (n : Option Addr) {w' : World} (hw : w' = w.setCell ⟨p, 1, none⟩ (.pointer n)) :
    Qs w' B s S L (upd I p { I p with v := n }) P Q ∧ Mb qtag B w w' := by
  have hI := H.its p hp
  obtain ⟨a, c, h1, h2⟩ := H.ex
  subst hw
  have h3 : un (upd I p { I p with v := n }) = un I := by
    funext q
    show (upd I p { I p with v := n } q).u = (I q).u
    by_cases e : q = p
    · rw [e, upd_eq]
    · rw [upd_ne _ _ e]
  refine ⟨⟨⟨a, c, ?_, ?_⟩, H.its.value hp n, H.sub, H.plc, by rw [h3]; exact H.ord, H.out, H.nod, H.low, H.few⟩, Mb.set hI.2 (by decide) hI.1⟩
  · rw [heap_ne (tag_ne h1 hI.2 (by decide))]; exact h1
  · refine OwnR.kept h2 fun k hk => heap_ne ?_
    obtain ⟨-, -, cur, h3⟩ := OwnR.lt h2 hk
    exact tag_ne h3 hI.2 (by decide)
/-- The row has grown by one place, which is free. -/
theorem Qs.grow {w1 w2 w3 : World} {B s : Nat} {S : Sd} {L : List Nat} {I : Nat → Itm} {P : Nat → Int} {Q : List Nat} (H : Qs w1 B s S L I P Q) {a a3 : Option Addr} {c n3 c3 : Nat} (h1 : w1.heap[s]? = some (.cells (scells S (.slice a Q.length c)) 63 (0, 0))) (h2 : OwnP w1 B 56 a Q.length c Q) (hb : Below w1.heap.size w1 w2) (hg : w2.grownBy w3 (a.map (·.block))) (hO : OwnR w3 B 56 1 a3 n3 c3 (pcells Q ++ [.pointer none])) (hn : n3 = Q.length + 1) (hf : Q.length + 1 ≤ 1000000) :
    ∃ g, a3 = some ⟨g, 0, none⟩ ∧ w3.heap[s]? = some (.cells (scells S (.slice a Q.length c)) 63 (0, 0)) ∧ ∀ w4, w4 = w3.setCell ⟨s, 4, none⟩ (.slice (some ⟨g, 0, none⟩) n3 c3) → Hs w4 B s S g c3 L I P (Q ++ [0]) Q.length ∧ Mb qtag B w1 w4 := by
  have hrow : ∀ (k : Nat) (cs : Array Value) (t : TypeId), w1.heap[k]? = some (Obj.cells cs t (0, 0)) → t ≠ 56 → w3.heap[k]? = some (Obj.cells cs t (0, 0)) := fun k cs t hk ht => by
    have hlt := (Array.getElem?_eq_some_iff.1 hk).1
    rw [hg.block k (Nat.lt_of_lt_of_le hlt hb.size) (fun e => by
      obtain ⟨-, -, cur, h3⟩ := OwnR.lt h2 e.symm
      exact tag_ne hk h3 ht rfl), hb.block k hlt, hk]
  have hs3 := hrow s _ _ h1 (by decide)
  have hBs : B ≤ w1.heap.size := Nat.le_trans H.low (Nat.le_of_lt (Array.getElem?_eq_some_iff.1 h1).1)
  have hM : Mb qtag B w1 w3 := by
    refine ⟨⟨hg.os.trans hb.os, hg.tape.trans hb.tape, hg.output.trans hb.output, Nat.le_trans hb.size hg.size, fun k cs t hk ht => ?_⟩, ⟨hg.os.trans hb.os, hg.tape.trans hb.tape, hg.output.trans hb.output, Nat.le_trans hb.size hg.size, fun k hk => ?_⟩⟩
    · rw [hrow k cs t hk (fun e => by rw [e, qtagP] at ht; cases ht), hk]
    · rw [hg.block k (by have := hb.size; omega) (fun e => by have := (OwnR.lt h2 e.symm).1; omega), hb.block k (by omega)]
  rcases hO.2 with ⟨h3, h4⟩ | ⟨g, c', cur, h3, h4, h5, h6, h7, h8, h9⟩
  · injection h3 with _ h5; omega
  · injection h3 with e1 e2 e3
    subst e1
    subst e3
    refine ⟨g, rfl, hs3, fun w4 hw => ?_⟩
    subst hw
    have hsg : s ≠ g := tag_ne hs3 h5 (by decide)
    have hl : (Q ++ [0]).length = Q.length + 1 := by simp
    refine ⟨⟨?_, ⟨⟨cur, ?_, by omega, fun i hi hne => ?_⟩, by omega, h7, h4⟩, fun p hp => ⟨(H.its p hp).1, ?_⟩, fun i hi hne => ?_, fun i hi hne => ?_, H.low, by omega⟩, hM.trans (Mb.set hs3 (by decide) H.low)⟩
    · rw [heap_set hs3, hl, hn]; rfl
    · rw [heap_ne (Ne.symm hsg)]; exact h5
    · rw [hl] at hi
      have hi' : i < Q.length := by omega
      rw [at_left hi']
      have h10 := congrArg (fun l : List Value => l[i]?) h9
      replace h10 : (cur.toList.take (n3 * 1))[i]? = (pcells Q ++ [.pointer none])[i]? := h10
      rw [List.getElem?_take, if_pos (by omega), Array.getElem?_toList, List.getElem?_append_left (by unfold pcells; rw [List.length_map]; exact hi')] at h10
      rw [h10]
      unfold pcells
      rw [List.getElem?_map, at_some hi']
      rfl
    · rw [heap_ne (Ne.symm (tag_ne h1 (H.its p hp).2 (by decide)))]
      exact hrow p _ _ (H.its p hp).2 (by decide)
    · rw [hl] at hi
      have hi' : i < Q.length := by omega
      rw [at_left hi']
      exact H.sub _ (at_mem hi')
    · rw [hl] at hi
      have hi' : i < Q.length := by omega
      rw [at_left hi']
      exact H.plc i hi'
/-- What add leaves. -/
def AddTo (w w' : World) (B s : Nat) (S : Sd) (L : List Nat) (I : Nat → Itm) (Q : List Nat) (p : Nat) (n : Int) : Prop := Mb qtag B w w' ∧ ∃ P' Q', Qs w' B s S L (upd I p { I p with u := n }) P' Q' ∧ ∀ q, q ∈ Q' ↔ q = p ∨ q ∈ Q
set_option maxRecDepth 100000 in
theorem add_any (w : World) (B s : Nat) (S : Sd) (L : List Nat) (I : Nat → Itm) (P : Nat → Int) (Q : List Nat) (H : Qs w B s S L I P Q) (p : Nat) (hp : p ∈ L) (hq : p ∉ Q) (n : Int) :
    Calls Tryz.prog 36 #[qp s, ptr p, .int .i64 n] w fun e w' => e = .returned (.tuple #[]) ∧ AddTo w w' B s S L I Q p n := by
  have f1 := H.its.cu hp
  have f2 := H.its.fz hp 2
  obtain ⟨w1, hw1⟩ : ∃ w1, w.setCell ⟨p, 2, none⟩ (.int .i64 n) = w1 := ⟨_, rfl⟩
  obtain ⟨hQ1, hM1⟩ := H.until hp hq n hw1.symm
  have hqn := H.plc.nod
  clear H
  obtain ⟨J, hJ⟩ : ∃ J, upd I p { I p with u := n } = J := ⟨_, rfl⟩
  rw [hJ] at hQ1
  have HJ : Hid (upd I p { I p with u := n } = J) := hJ
  clear hJ
  have HM1 : Hid (Mb qtag B w w1) := hM1
  have HQ1 : Hid (Qs w1 B s S L J P Q) := hQ1
  obtain ⟨a, c, h1, h2⟩ := hQ1.ex
  have e1 : w1.cell? ⟨s, 4, none⟩ = some (.slice a Q.length c) := by simp [World.cell?, h1]
  have hle : Q.length ≤ 1000000 := hQ1.le
  have HO : Hid (OwnP w1 B 56 a Q.length c Q) := h2
  have HB : Hid (w1.heap[s]? = some (.cells (scells S (.slice a Q.length c)) 63 (0, 0))) := h1
  have hBl : B ≤ w1.heap.size := Nat.le_trans hQ1.low (Nat.le_of_lt (Array.getElem?_eq_some_iff.1 h1).1)
  clear h1 h2 hQ1 hM1
  have hf : Q.length + 1 ≤ 1000000 := by
    have h3 := len_sub (Q := p :: Q) (List.nodup_cons.2 ⟨hq, hqn⟩) (fun q hq' => by
      rcases List.mem_cons.1 hq' with rfl | h4
      · exact hp
      · exact HQ1.out.sub q h4)
    rw [List.length_cons] at h3
    exact Nat.le_trans h3 HQ1.out.few
  go_enter Tryz.func36, Tryz.ntmps36
  go_wp2_with (at_builtin; refine Dk.append_r rfl (.tmp 14) (.tmp 15) rfl eltI B rfl (OwnR.keep HO.out (alloc_below w1 _)) [.pointer none] rfl rfl (by intro j u hu; cases j with | zero => (rw [add_flat]; simp only [World.cell?, heap_alloc_new]; exact hu) | succ j => simp at hu) (by simp [Value.oneCell']) (by decide) (by omega) (by unfold maxLen; omega) (Nat.le_trans hBl (alloc_below w1 _).size) ?_; intro a3 n3 c3 w3 hn3 HO3 HG3 HW3; obtain ⟨g, rfl, hs3, hgr⟩ := HQ1.out.grow HB.out HO.out (alloc_below w1 _) HG3.out HO3.out hn3 hf; have m1 : w3.cell? ⟨s, 4, none⟩ = some (.slice a Q.length c) := (by simp [World.cell?, hs3]); have m2 : w3.frozen? ⟨s, 4, none⟩ = false := (by simp [World.frozen?, hs3]); have HGr : Hid (∀ w4, w4 = w3.setCell ⟨s, 4, none⟩ (.slice (some ⟨g, 0, none⟩) n3 c3) → Hs w4 B s S g c3 L J P (Q ++ [0]) Q.length ∧ Mb qtag B w1 w4) := hgr; clear hgr hs3 HO3 HG3 HW3)
  subst hn3
  obtain ⟨w4, hw4⟩ : ∃ w4, w3.setCell ⟨s, 4, none⟩ (.slice (some ⟨g, 0, none⟩) (Q.length + 1) c3) = w4 := ⟨_, rfl⟩
  rw [hw4]
  obtain ⟨hH4, hM4⟩ := HGr.out w4 hw4.symm
  have hl : (Q ++ [0]).length = Q.length + 1 := by simp
  have hset : (Q ++ [0]).set Q.length p = Q ++ [p] := by rw [List.set_append_right _ _ (Nat.le_refl _), Nat.sub_self]; rfl
  have hW : Way w4 w4 B s S g c3 L J P (Q ++ [0]) Q.length p P (Q ++ [0]) Q.length := by
    refine ⟨hH4, HQ1.out.ord.more 0, by omega, fun i hi hne e => ?_, List.Perm.refl _, fun _ _ => rfl, Mb.refl _ _ _⟩
    have hi' : i < Q.length := by omega
    rw [at_left hi'] at e
    exact hq (by rw [← e]; exact at_mem hi')
  have HM4 : Hid (Mb qtag B w w4) := HM1.out.trans hM4
  refine (rise_any w4 B s S g c3 L J P (Q ++ [0]) Q.length p hW hp).mono ?_
  rintro e w5 ⟨rfl, P', Q', h', hF, hlt, hat, hpl, hgap, hah, hk⟩
  have HE : Hid (AddTo w w5 B s S L I Q p n) := by
    have hpm := hF.perm
    have ho := hF.out
    rw [hset] at hpm ho
    have hmem : ∀ q, q ∈ Q' ↔ q = p ∨ q ∈ Q := fun q => by
      rw [hpm.mem_iff, List.mem_append, List.mem_singleton, or_comm]
    refine ⟨HM4.out.trans hF.mv, P', Q', ?_, hmem⟩
    rw [HJ.out]
    refine hF.hs.qs (hk fun i i0 hi hpar => by omega) (fun q hq' hqn => ?_) HQ1.out.nod HQ1.out.few
    rw [ho q (fun h => hqn (hpm.mem_iff.2 h))]
    exact HQ1.out.out q hq' (fun h => hqn ((hmem q).2 (.inr h)))
  clear hF hlt hat hpl hgap hah hk hW hH4 hM4
  go_wp2
  go_end0
  exact ⟨rfl, HE.out⟩
theorem newItem_any (w : World) (k : ByteArray) :
    Calls Tryz.prog 65 #[.string k] w fun e w' => e = .returned (ptr w.heap.size) ∧ w' = w.alloc (.cells (icells ⟨k, none, 0⟩ (-1)) 86) := by
  go_enter Tryz.func65, Tryz.ntmps65
  go_wp2
  go_ret
  exact ⟨rfl, rfl⟩
/-- A new item comes to those that stand in no queue. -/
theorem Qs.more {w : World} {B s : Nat} {S : Sd} {L : List Nat} {I : Nat → Itm} {P : Nat → Int} {Q : List Nat} (H : Qs w B s S L I P Q) (i : Itm) (hf : L.length + 1 ≤ 1000000) {w' : World} (hw : w' = w.alloc (.cells (icells i (-1)) 86)) :
    Qs w' B s S (w.heap.size :: L) (upd I w.heap.size i) (upd P w.heap.size (-1)) Q ∧ w.heap.size ∉ L := by
  have hb : Below w.heap.size w w' := by rw [hw]; exact alloc_below w _
  have hn : w.heap.size ∉ L := fun h => by have := H.its.lt h; omega
  have hnq : w.heap.size ∉ Q := fun h => hn (H.sub _ h)
  have H1 := H.keep hb
  obtain ⟨a, c, h1, h2⟩ := H1.ex
  have hB : B ≤ w.heap.size := by
    obtain ⟨a, c, h1, h2⟩ := H.ex
    exact Nat.le_trans H.low (Nat.le_of_lt (Array.getElem?_eq_some_iff.1 h1).1)
  refine ⟨⟨⟨a, c, h1, h2⟩, fun p hp => ?_, fun p hp => List.mem_cons_of_mem _ (H.sub p hp), fun j hj => ?_, fun j j0 hj => ?_, fun p hp hpq => ?_, List.nodup_cons.2 ⟨hn, H.nod⟩, H.low, by rw [List.length_cons]; exact hf⟩, hn⟩
  · rcases List.mem_cons.1 hp with rfl | hp
    · refine ⟨hB, ?_⟩
      rw [upd_eq, upd_eq, hw]
      exact heap_alloc_new w _
    · have hne : p ≠ w.heap.size := fun e => hn (by rw [← e]; exact hp)
      rw [upd_ne _ _ hne, upd_ne _ _ hne]
      exact H1.its p hp
  · rw [upd_ne _ _ (fun e => hnq (by rw [← e]; exact at_mem hj))]
    exact H.plc j hj
  · have h3 : ∀ j, j < Q.length → un (upd I w.heap.size i) (at' Q j) = un I (at' Q j) := fun j hj => by
      show (upd I w.heap.size i (at' Q j)).u = _
      rw [upd_ne _ _ (fun e => hnq (by rw [← e]; exact at_mem hj))]
    rw [h3 _ hj, h3 _ (by omega)]
    exact H.ord j j0 hj
  · rcases List.mem_cons.1 hp with rfl | hp
    · rw [upd_eq]
    · rw [upd_ne _ _ (fun e => hn (by rw [← e]; exact hp))]
      exact H.out p hp hpq
/-- An item is let go. -/
theorem Qs.less {w : World} {B s : Nat} {S : Sd} {L : List Nat} {I : Nat → Itm} {P : Nat → Int} {Q : List Nat} (H : Qs w B s S L I P Q) {p : Nat} (hq : p ∉ Q) : Qs w B s S (L.erase p) I P Q :=
  ⟨H.ex, fun q h => H.its q (List.mem_of_mem_erase h), fun q h => (List.mem_erase_of_ne (fun e => hq (by rw [← e]; exact h))).2 (H.sub q h), H.plc, H.ord, fun q h hn => H.out q (List.mem_of_mem_erase h) hn, H.nod.erase p, H.low, Nat.le_trans List.length_erase_le H.few⟩
end Go.Proofs.YtmjeljldmmkcpabGreat.Sq
