/- Texts that the others stand on. -/
import Derived.Test.YtmjeljldmmkcpaaGreatK27
import Derived.Test.YtmjeljldmmkcpaaGreatProg
import Derived.Test.YtmjeljldmmkcpaaGreatK10
namespace Go.Proofs.YtmjeljldmmkcpaaGreat
open Go.RowKit Go.PlainAid
set_option maxRecDepth 100000 in
set_option maxHeartbeats 1000000 in
theorem CopyQ_any (B l R most cnt : Nat) (ns : List Nd) (w : World) (h : Lst w B l R most cnt ns) (h0 : 0 < most) :
  Calls Tryz.prog 92 #[ptr l] w fun e w' => Below w.heap.size w w' ∧ ∃ c R2 ns2, e = .returned (ptr c) ∧ Lst w' w.heap.size c R2 most cnt ns2 ∧ ns2.map (fun d => d.ls) = ns.map (fun d => d.ls) := by
 have hc := h.cring
 have hmo := h.cmost
 have HL : Hid (Lst w B l R most cnt ns) := h
 have HN := NewQ_any (most : Int) w most (by omega)
 clear h
 go_enter Tryz.func92, Tryz.ntmps92
 go_wp2_with fail
 refine HN.mono ?_
 rintro e w1 ⟨hb, c, R2, rfl, hC⟩
 have HB1 : Hid (Below w.heap.size w w1) := hb
 have HL1 : Hid (Lst w1 B l R most cnt ns) := HL.out.keep hb
 have hcc := HL1.out.ccnt
 have hcr := HL1.out.cring
 have hcm := hC.ccnt
 have hfz : w1.frozen? ⟨c, 1, none⟩ = false := by simp [World.frozen?, hC.blk]
 obtain ⟨k1, k2⟩ := hC.count cnt
 have hBc : Below w.heap.size w1 (w1.setCell ⟨c, 1, none⟩ (.int .i64 (cnt : Nat))) := k2.stay.below (fun k hk => (hC.fplt k hk).1) hb.size
 obtain ⟨w2, hw2⟩ : ∃ w2, w1.setCell ⟨c, 1, none⟩ (.int .i64 (cnt : Nat)) = w2 := ⟨_, rfl⟩
 rw [hw2] at k1 hBc
 have HC2 : Hid (Lst w2 w.heap.size c R2 most cnt []) := k1
 have HB2 : Hid (Below w.heap.size w w2) := HB1.out.trans hBc
 clear k1 k2 hBc hb hC HN
 have HL2 : Hid (Lst w2 B l R most cnt ns) := HL.out.keep HB2.out
 have hcr2 := HL2.out.cring
 have hg : w2.cell? ⟨R, 2, none⟩ = some (ptr (hdA R ns)) := (Lst.gap (l1 := []) (l2 := ns) HL2.out).1
 obtain ⟨m, hm⟩ : ∃ m, ns.length = m := ⟨_, rfl⟩
 have HM : Hid (ns.length = m) := hm
 obtain ⟨v, hv⟩ : ∃ v, hdA R ns = v := ⟨_, rfl⟩
 have HV : Hid (hdA R ns = v) := hv
 rw [hv] at hg
 clear hm hv
 go_wp2
 go_loopg [4] m (fun g nv wr => ∃ l1 l2 ns2 : List Nd, ∃ v : Nat, nv = ptr v ∧ Hid (hdA R l2 = v) ∧ Hid (l2.length = g) ∧ Hid (ns = l1 ++ l2) ∧ Hid (Lst wr w.heap.size c R2 most cnt ns2) ∧ Hid (ns2.map (fun d => d.ls) = l1.map (fun d => d.ls)) ∧ Hid (Below w.heap.size w wr))
 case atStart => exact ⟨[], ns, [], v, rfl, HV, HM, rfl, HC2, rfl, HB2⟩
 case round =>
  obtain ⟨l1, l2, ns2, v, rfl, HV, HG, HE, HC, HT, HB⟩ := hrel
  have hLk := HL.out.keep HB.out
  have hcr := hLk.cring
  cases l2 with
  | nil =>
   have hvR : R = v := HV.out
   subst hvR
   have hq := neq_same wr R
   have HEE : Hid (ns = l1) := by show _ = _; have := HE.out; simpa using this
   clear hLk
   go_wp2
   go_ret
   exact ⟨HB.out, c, R2, ns2, rfl, HC.out, by rw [HEE.out]; exact HT.out⟩
  | cons d r =>
   have hvd : d.a = v := HV.out
   subst hvd
   rw [HE.out] at hLk
   have hq := (hLk.neqR (d := d) (by simp)).2
   have HLk : Hid (Lst wr B l R most cnt (l1 ++ d :: r)) := hLk
   have hdN := hLk.nod d (by simp)
   have HPd : Hid (∀ w', Below wr.heap.size wr w' → Calls Tryz.prog 131 #[ptr d.p] w' fun e w'' => MakesPk w' d.ls e w'') := fun w' hb => Copy_any B d.p d.r d.n d.c d.ls w' (hdN.pk.keep hb) (by have := hdN.siz; omega)
   have HFd : Hid (Fit d.ls ∧ (pack d.ls).length ≤ 65536) := ⟨hdN.fit, by rw [hdN.pk.len]; exact hdN.siz⟩
   obtain ⟨v2, hv2⟩ : ∃ v2, hdA R r = v2 := ⟨_, rfl⟩
   have HV2 : Hid (hdA R r = v2) := hv2
   have hg2 : Hid (∀ w', Below w.heap.size w w' → w'.cell? ⟨d.a, 2, none⟩ = some (ptr v2)) := fun w' hb => by
    have h3 := HL.out.keep hb
    rw [HE.out] at h3
    have := (Lst.gap (l1 := l1 ++ [d]) (l2 := r) (by simpa using h3)).1
    rw [Cx, hv2] at this
    exact this
   have HE1 : Hid (ns = (l1 ++ [d]) ++ r) := by show _ = _; rw [HE.out]; simp
   have HK : Hid (r.length = gk - 1) := by have := HG.out; rw [List.length_cons] at this; show _ = _; omega
   have hg0 : gk ≠ 0 := by have := HG.out; rw [List.length_cons] at this; omega
   have HCells : Hid (∀ w', Below wr.heap.size wr w' → w'.cell? ⟨c, 2, none⟩ = some (ptr R2) ∧ w'.cell? ⟨R2, 1, none⟩ = some (ptr (laA R2 ns2)) ∧ w'.cell? ⟨d.a, 0, none⟩ = some (ptr d.p)) := fun w' hb => by
    have h1 := HC.out.keep hb
    refine ⟨h1.cring, ?_, (HLk.out.keep hb).cpk (by simp)⟩
    exact (Lst.gap (l1 := ns2) (l2 := []) (by simpa using h1)).2
   have HD : Hid (Below wr.heap.size wr wr.drew) := Aa wr 1
   obtain ⟨c1, c2, c3⟩ := HCells.out _ HD.out
   clear hLk hdN hv2
   go_upto_region 6 with fail
   go_region_with (first
     | (go_at_call 131; refine (HPd.out _ HD.out).mono ?_; rintro e w3 ⟨hb, p, ra, rn, rc, rfl, hP⟩; have HB3 : Hid (Below wr.heap.size wr w3) := HD.out.trans hb; obtain ⟨e1, e2, e3⟩ := HCells.out _ HB3.out; have HP3 : Hid (Pk w3 wr.heap.size p ra rn rc d.ls) := hP; clear hb hP)
     | (go_at_call 137; refine (link_any w.heap.size c R2 most cnt ns2 [] p ra rn rc d.ls w3 (by rw [List.append_nil]; exact HC.out.keep HB3.out) (HP3.out.low' HB.out.size) HFd.out.1 (by have h := HP3.out.len; have h2 := HFd.out.2; omega) HP3.out.blocks.2 (by rw [List.append_nil]; exact HC.out.fresh HP3.out (Nat.le_refl _))).mono ?_; rintro e w4 ⟨rfl, f, hf, h4, h5⟩; have HL4 : Hid (Lst w4 w.heap.size c R2 most cnt (ns2 ++ [⟨f, p, ra, rn, rc, d.ls⟩])) := h4; have HB4 : Hid (Below w.heap.size w w4) := (HB.out.trans (HB3.out.mono HB.out.size)).trans (h5.below (fun k hk => ((HC.out.keep HB3.out).fplt k (by simpa using hk)).1) (Nat.le_trans HB.out.size HB3.out.size)); clear h4 h5 hf))
   all_goals
    have hg3 := hg2.out _ HB4.out
    have HT5 : Hid ((ns2 ++ [(⟨f, p, ra, rn, rc, d.ls⟩ : Nd)]).map (fun d : Nd => d.ls) = (l1 ++ [d]).map (fun d : Nd => d.ls)) := by
     show _ = _
     rw [List.map_append, List.map_append, HT.out]; rfl
    go_wp2
    go_roundg (gk - 1)
    case measure => omega
    case rel => exact ⟨l1 ++ [d], r, _, v2, rfl, HV2, HK, HE1, HL4, HT5, HB4⟩
structure QV (w : World) (B l most : Nat) (ts : List BA) (q : Nat) (F : List Nat) : Prop where
 ex : ∃ R ns, Lst w B l R most ts.length ns ∧ Ok most ns ∧ txN ns = ts ∧ ns.length = q ∧ F = l :: R :: fpN ns
 pos : 0 < most
theorem QV.keep {w w' : World} {B l most q : Nat} {ts : List BA} {F : List Nat} (h : QV w B l most ts q F) (hb : Below w.heap.size w w') : QV w' B l most ts q F := by
 obtain ⟨R, ns, h1, h2, h3, h4⟩ := h.ex
 exact ⟨⟨R, ns, h1.keep hb, h2, h3, h4⟩, h.pos⟩
theorem QV.blocks {w : World} {B l most q : Nat} {ts : List BA} {F : List Nat} (h : QV w B l most ts q F) : ∀ k ∈ F, B ≤ k ∧ k < w.heap.size := by
 obtain ⟨R, ns, h1, h2, h3, h4, rfl⟩ := h.ex
 exact h1.fplt
theorem QV.low {w : World} {B l most q : Nat} {ts : List BA} {F : List Nat} (h : QV w B l most ts q F) : B ≤ w.heap.size := by
 obtain ⟨R, ns, h1, h2, h3, h4, rfl⟩ := h.ex
 exact Nat.le_trans h1.lowl (Nat.le_of_lt h1.lt)
theorem QV.stay {w w' : World} {B l most q : Nat} {ts : List BA} {F M : List Nat} (h : QV w B l most ts q F) (hs : Stay w w' M) (hd : ∀ k ∈ F, k ∉ M) : QV w' B l most ts q F := by
 obtain ⟨R, ns, h1, h2, h3, h4, rfl⟩ := h.ex
 exact ⟨⟨R, ns, h1.stay hs hd, h2, h3, h4, rfl⟩, h.pos⟩
theorem QV.down {w : World} {B C l most q : Nat} {ts : List BA} {F : List Nat} (h : QV w B l most ts q F) (hC : C ≤ B) : QV w C l most ts q F := by
 obtain ⟨R, ns, h1, h2, h3, h4, rfl⟩ := h.ex
 refine ⟨⟨R, ns, ⟨h1.blk, h1.ring, h1.adj, fun d hd => ?_, h1.num, Nat.le_trans hC h1.lowl, Nat.le_trans hC h1.lowR⟩, h2, h3, h4, rfl⟩, h.pos⟩
 have hd := h1.nod d hd
 exact ⟨hd.blk, hd.pk.low' hC, hd.fit, hd.siz, Nat.le_trans hC hd.low⟩
def VDoes (w : World) (B l most : Nat) (ts : List BA) (F : List Nat) (w' : World) : Prop := ∃ q F', QV w' B l most ts q F' ∧ Left w w' F F'
theorem Does.qv {w w' : World} {B l R most cnt : Nat} {ns : List Nd} {ts : List BA} (h : Does w B l R most cnt ns ts w') (hc : cnt = ts.length) (h0 : 0 < most) : VDoes w B l most ts (l :: R :: fpN ns) w' := by
 subst hc
 obtain ⟨ns', h2, h3, h4, h5⟩ := h
 exact ⟨_, _, ⟨⟨R, ns', h2, h4, h5, rfl, rfl⟩, h0⟩, h3.left⟩
theorem VDoes.below {w w' : World} {B l most q : Nat} {ts rs : List BA} {F : List Nat} (h : QV w B l most rs q F) (hd : VDoes w B l most ts F w') : Below B w w' := by
 obtain ⟨q', F', h1, h2⟩ := hd
 exact h2.stay.below (fun k hk => (h.blocks k hk).1) h.low
theorem VNew (m : Int) (w : World) (most : Nat) (hm : max m 1 = most) :
  Calls Tryz.prog 41 #[.int .i64 m] w fun e w' => Below w.heap.size w w' ∧ ∃ l F, e = .returned (ptr l) ∧ QV w' w.heap.size l most [] 0 F := by
 refine (NewQ_any m w most hm).mono ?_
 rintro e w' ⟨hb, l, R, rfl, h⟩
 exact ⟨hb, l, _, rfl, ⟨R, [], h, fun d hd => absurd hd (by simp), rfl, rfl, rfl⟩, by omega⟩
theorem VLen (w : World) (B l most q : Nat) (ts : List BA) (F : List Nat) (h : QV w B l most ts q F) : Calls Tryz.prog 119 #[ptr l] w fun e w' => e = .returned (.int .i64 (ts.length : Nat)) ∧ w' = w := by
 obtain ⟨R, ns, h1, h2, h3, h4, rfl⟩ := h.ex
 exact LenQ_any B l R most _ ns w h1
theorem VRight (w : World) (B l most q : Nat) (ts : List BA) (F : List Nat) (h : QV w B l most ts q F) (a : Option Addr) (n c : Nat) (ls : List BA) (hR : RdF w a n ls F) (hf : Fit ls) (hc : ts.length + n ≤ 1000000) :
  Calls Tryz.prog 51 #[ptr l, .slice a n c] w fun e w' => e = .returned (.int .i64 0) ∧ VDoes w B l most (ts ++ ls) F w' := by
 obtain ⟨R, ns, h1, h2, rfl, h4, rfl⟩ := h.ex
 refine (Right_ok B l R most _ ns a n c ls w h1 h2 hR hf hc h.pos).mono ?_
 rintro e w' ⟨rfl, hd⟩
 exact ⟨rfl, hd.qv (by rw [List.length_append, hR.rd.len]) h.pos⟩
theorem VAll (w : World) (B l most q : Nat) (ts : List BA) (F : List Nat) (h : QV w B l most ts q F) (hc : ts.length ≤ 1000000) :
  Calls Tryz.prog 107 #[ptr l] w fun e w' => Below w.heap.size w w' ∧ ∃ a2 n2 c2, e = .returned (.slice a2 n2 c2) ∧ OwnS w' w.heap.size a2 n2 c2 ts := by
 obtain ⟨R, ns, h1, h2, rfl, h4, rfl⟩ := h.ex
 exact AllQ_any B l R most _ ns w h1 h2 rfl hc
theorem VCopy (w : World) (B l most q : Nat) (ts : List BA) (F : List Nat) (h : QV w B l most ts q F) :
  Calls Tryz.prog 92 #[ptr l] w fun e w' => Below w.heap.size w w' ∧ ∃ c F', e = .returned (ptr c) ∧ QV w' w.heap.size c most ts q F' := by
 obtain ⟨R, ns, h1, h2, h3, h0, rfl⟩ := h.ex
 refine (CopyQ_any B l R most _ ns w h1 h.pos).mono ?_
 rintro e w' ⟨hb, c, R2, ns2, rfl, h4, h5⟩
 have hf : ∀ l1 : List Nd, txN l1 = (l1.map fun d => d.ls).flatten := fun l1 => by unfold txN; rw [List.flatMap_def]
 refine ⟨hb, c, _, rfl, ⟨R2, ns2, h4, fun d hd => ?_, by rw [hf, h5, ← hf]; exact h3, ?_, rfl⟩, h.pos⟩
 ·have hm : d.ls ∈ ns2.map (fun d => d.ls) := List.mem_map.2 ⟨d, hd, rfl⟩
  rw [h5] at hm
  obtain ⟨d', hd', e⟩ := List.mem_map.1 hm
  rw [← e]; exact h2 d' hd'
 ·have := congrArg List.length h5
  rw [List.length_map, List.length_map] at this
  omega
structure VB (w : World) (v k : Nat) (t : BA) (h s l : Value) : Prop where
 blk : w.heap[v]? = some (.cells #[.int .i64 (k : Nat), .string t, h, s, l] 74 (0, 0))
theorem VB.lt {w : World} {v k : Nat} {t : BA} {h s l : Value} (b : VB w v k t h s l) : v < w.heap.size := (Array.getElem?_eq_some_iff.1 b.blk).1
theorem VB.kept {w wn : World} {v k : Nat} {t : BA} {h s l : Value} (b : VB w v k t h s l) (hb : wn.heap[v]? = w.heap[v]?) : VB wn v k t h s l := ⟨by rw [hb]; exact b.blk⟩
theorem VB.keep {w wn : World} {v k : Nat} {t : BA} {h s l : Value} (b : VB w v k t h s l) (hb : Below w.heap.size w wn) : VB wn v k t h s l := b.kept (hb.block v b.lt)
theorem VB.ck {w : World} {v k : Nat} {t : BA} {h s l : Value} (b : VB w v k t h s l) : w.cell? ⟨v, 0, none⟩ = some (.int .i64 (k : Nat)) := by simp [World.cell?, b.blk]
theorem VB.ch {w : World} {v k : Nat} {t : BA} {h s l : Value} (b : VB w v k t h s l) : w.cell? ⟨v, 2, none⟩ = some h := by simp [World.cell?, b.blk]
theorem VB.cs {w : World} {v k : Nat} {t : BA} {h s l : Value} (b : VB w v k t h s l) : w.cell? ⟨v, 3, none⟩ = some s := by simp [World.cell?, b.blk]
theorem VB.cl {w : World} {v k : Nat} {t : BA} {h s l : Value} (b : VB w v k t h s l) : w.cell? ⟨v, 4, none⟩ = some l := by simp [World.cell?, b.blk]
theorem VB.new (w : World) (k : Nat) (t : BA) (h s l : Value) : VB (w.alloc (.cells #[.int .i64 (k : Nat), .string t, h, s, l] 74)) w.heap.size k t h s l := ⟨heap_alloc_new w _⟩
end Go.Proofs.YtmjeljldmmkcpaaGreat
namespace Go.Proofs.YtmjeljldmmkcpaaGreat.Sq
def at' (Q : List Nat) (i : Nat) : Nat := Q.getD i 0
theorem at_set (Q : List Nat) (h x i : Nat) : at' (Q.set h x) i = if i = h ∧ h < Q.length then x else at' Q i := by
 unfold at'
 rw [List.getD_eq_getElem?_getD, List.getD_eq_getElem?_getD, List.getElem?_set]
 by_cases h1 : h = i
 ·subst h1
  by_cases h2 : h < Q.length
  ·simp [h2]
  ·simp [h2]
 ·rw [if_neg h1, if_neg (fun e => h1 e.1.symm)]
theorem at_ne {Q : List Nat} {h x i : Nat} (hn : i ≠ h) : at' (Q.set h x) i = at' Q i := by rw [at_set, if_neg (fun e => hn e.1)]
theorem at_eq {Q : List Nat} {h x i : Nat} (hi : i = h) (hl : h < Q.length) : at' (Q.set h x) i = x := by rw [at_set, if_pos ⟨hi, hl⟩]
theorem at_mem {Q : List Nat} {i : Nat} (h : i < Q.length) : at' Q i ∈ Q := by
 unfold at'
 rw [List.getD_eq_getElem?_getD, List.getElem?_eq_getElem h]
 exact List.getElem_mem h
theorem at_ex {Q : List Nat} {p : Nat} (h : p ∈ Q) : ∃ i, i < Q.length ∧ at' Q i = p := by
 obtain ⟨i, hi, e⟩ := List.mem_iff_getElem.1 h
 refine ⟨i, hi, ?_⟩
 unfold at'
 rw [List.getD_eq_getElem?_getD, List.getElem?_eq_getElem hi]
 exact e
theorem at_some {Q : List Nat} {i : Nat} (h : i < Q.length) : Q[i]? = some (at' Q i) := by
 unfold at'
 rw [List.getD_eq_getElem?_getD, List.getElem?_eq_getElem h]
 rfl
theorem swap_perm (Q : List Nat) (h a x : Nat) (hh : h < Q.length) (ha : a < Q.length) (hne : a ≠ h) : ((Q.set h (at' Q a)).set a x).Perm (Q.set h x) := by
 rw [List.perm_iff_count]
 intro b
 have e1 : (Q.set h (at' Q a))[a]'(by rw [List.length_set]; exact ha) = at' Q a := by
  rw [List.getElem_set_ne (Ne.symm hne)]
  unfold at'
  rw [List.getD_eq_getElem?_getD, List.getElem?_eq_getElem ha]
  rfl
 rw [List.count_set (by rw [List.length_set]; exact ha), List.count_set hh, List.count_set hh, e1]
 have : (if at' Q a == b then 1 else 0) ≤ List.count b Q := by
  split
  ·rename_i h1
   rw [beq_iff_eq] at h1
   have := at_mem ha
   rw [h1] at this
   exact List.count_pos_iff.2 this
  ·omega
 omega
structure Gap (U : Nat → Int) (Q : List Nat) (h : Nat) : Prop where
 ord : ∀ i, 0 < i → i < Q.length → i ≠ h → (i - 1) / 2 ≠ h → U (at' Q ((i - 1) / 2)) ≤ U (at' Q i)
 gap : ∀ i, 0 < h → 0 < i → i < Q.length → (i - 1) / 2 = h → U (at' Q ((h - 1) / 2)) ≤ U (at' Q i)
def Ord (U : Nat → Int) (Q : List Nat) : Prop := ∀ i, 0 < i → i < Q.length → U (at' Q ((i - 1) / 2)) ≤ U (at' Q i)
theorem Ord.least {U : Nat → Int} {Q : List Nat} (h : Ord U Q) : ∀ i, i < Q.length → U (at' Q 0) ≤ U (at' Q i) := by
 intro i
 induction i using Nat.strongRecOn with
 | ind i ih =>
  intro hi
  by_cases h0 : i = 0
  ·subst h0; exact Int.le_refl _
  ·exact Int.le_trans (ih ((i - 1) / 2) (by omega) (by omega)) (h i (by omega) hi)
theorem Ord.gapAt {U : Nat → Int} {Q : List Nat} (h : Ord U Q) (g : Nat) (hg : g < Q.length) : Gap U Q g := by
 refine ⟨fun i h0 hi _ _ => h i h0 hi, fun i hg0 h0 hi hp => ?_⟩
 have h1 := h i h0 hi
 rw [hp] at h1
 exact Int.le_trans (h g hg0 hg) h1
theorem Ord.cut {U : Nat → Int} {Q : List Nat} {x : Nat} (h : Ord U (Q ++ [x])) : Ord U Q := by
 intro i h0 hi
 have h1 := h i h0 (by rw [List.length_append]; simp; omega)
 have e : ∀ j, j < Q.length → at' (Q ++ [x]) j = at' Q j := fun j hj => by
  unfold at'
  rw [List.getD_eq_getElem?_getD, List.getD_eq_getElem?_getD, List.getElem?_append_left hj]
 rw [e _ (by omega), e _ hi] at h1
 exact h1
theorem Ord.more {U : Nat → Int} {Q : List Nat} (x : Nat) (h : Ord U Q) : Gap U (Q ++ [x]) Q.length := by
 have e : ∀ j, j < Q.length → at' (Q ++ [x]) j = at' Q j := fun j hj => by
  unfold at'
  rw [List.getD_eq_getElem?_getD, List.getD_eq_getElem?_getD, List.getElem?_append_left hj]
 refine ⟨fun i h0 hi hn hp => ?_, fun i _ _ hi hp => ?_⟩
 ·rw [List.length_append] at hi
  simp at hi
  rw [e _ (by omega), e _ (by omega)]
  exact h i h0 (by omega)
 ·rw [List.length_append] at hi
  simp at hi
  omega
theorem Gap.up {U : Nat → Int} {Q : List Nat} {h : Nat} (g : Gap U Q h) (h0 : 0 < h) (hl : h < Q.length) : Gap U (Q.set h (at' Q ((h - 1) / 2))) ((h - 1) / 2) := by
 refine ⟨fun i i0 hi hn hp => ?_, fun i a0 i0 hi hp => ?_⟩
 ·rw [List.length_set] at hi
  have h1 : i ≠ h := fun e => hp (by rw [e])
  rw [at_ne h1]
  by_cases h2 : (i - 1) / 2 = h
  ·rw [at_eq h2 hl]
   exact g.gap i h0 i0 hi h2
  ·rw [at_ne h2]
   exact g.ord i i0 hi h1 h2
 ·rw [List.length_set] at hi
  rw [at_ne (show ((h - 1) / 2 - 1) / 2 ≠ h by omega)]
  have h3 := g.ord ((h - 1) / 2) a0 (by omega) (by omega) (by omega)
  by_cases h1 : i = h
  ·rw [at_eq h1 hl]; exact h3
  ·rw [at_ne h1]
   have h4 := g.ord i i0 hi h1 (by omega)
   rw [hp] at h4
   exact Int.le_trans h3 h4
theorem Gap.behind {U : Nat → Int} {Q : List Nat} {h x : Nat} (g : Gap U Q h) (h0 : 0 < h) (hl : h < Q.length) (hx : U x ≤ U (at' Q ((h - 1) / 2))) : ∀ i, 0 < i → i < (Q.set h (at' Q ((h - 1) / 2))).length → (i - 1) / 2 = (h - 1) / 2 → U x ≤ U (at' (Q.set h (at' Q ((h - 1) / 2))) i) := by
 intro i i0 hi hp
 rw [List.length_set] at hi
 by_cases h1 : i = h
 ·rw [at_eq h1 hl]; exact hx
 ·rw [at_ne h1]
  have h4 := g.ord i i0 hi h1 (by omega)
  rw [hp] at h4
  exact Int.le_trans hx h4
theorem Gap.lay {U : Nat → Int} {Q : List Nat} {h x : Nat} (g : Gap U Q h) (hx : 0 < h → U (at' Q ((h - 1) / 2)) ≤ U x) : Gap U (Q.set h x) h ∧ (0 < h → U (at' (Q.set h x) ((h - 1) / 2)) ≤ U x) := by
 refine ⟨⟨fun i i0 hi hn hp => ?_, fun i h0 i0 hi hp => ?_⟩, fun h0 => ?_⟩
 ·rw [List.length_set] at hi
  rw [at_ne hn, at_ne hp]
  exact g.ord i i0 hi hn hp
 ·rw [List.length_set] at hi
  rw [at_ne (show (h - 1) / 2 ≠ h by omega), at_ne (show i ≠ h by omega)]
  exact g.gap i h0 i0 hi hp
 ·rw [at_ne (show (h - 1) / 2 ≠ h by omega)]
  exact hx h0
theorem Gap.done {U : Nat → Int} {Q : List Nat} {h x : Nat} (g : Gap U Q h) (hl : h < Q.length) (hx : 0 < h → U (at' Q ((h - 1) / 2)) ≤ U x) (hc : ∀ i, 0 < i → i < Q.length → (i - 1) / 2 = h → U x ≤ U (at' Q i)) : Ord U (Q.set h x) := by
 intro i i0 hi
 rw [List.length_set] at hi
 by_cases h1 : i = h
 ·rw [at_eq h1 hl, at_ne (show (i - 1) / 2 ≠ h by omega), h1]
  exact hx (by omega)
 ·rw [at_ne h1]
  by_cases h2 : (i - 1) / 2 = h
  ·rw [at_eq h2 hl]
   exact hc i i0 hi h2
  ·rw [at_ne h2]
   exact g.ord i i0 hi h1 h2
theorem Gap.down {U : Nat → Int} {Q : List Nat} {h c x : Nat} (g : Gap U Q h) (c0 : 0 < c) (cl : c < Q.length) (hp : (c - 1) / 2 = h) (hm : ∀ i, 0 < i → i < Q.length → (i - 1) / 2 = h → U (at' Q c) ≤ U (at' Q i)) (hx : U (at' Q c) ≤ U x) :
  Gap U (Q.set h (at' Q c)) c ∧ (0 < c → U (at' (Q.set h (at' Q c)) ((c - 1) / 2)) ≤ U x) := by
 have hl : h < Q.length := by omega
 refine ⟨⟨fun i i0 hi hn hq => ?_, fun i _ i0 hi hq => ?_⟩, fun _ => ?_⟩
 ·rw [List.length_set] at hi
  by_cases h1 : i = h
  ·rw [at_eq h1 hl, at_ne (show (i - 1) / 2 ≠ h by omega), h1]
   exact g.gap c (by omega) c0 cl hp
  ·rw [at_ne h1]
   by_cases h2 : (i - 1) / 2 = h
   ·rw [at_eq h2 hl]
    exact hm i i0 hi h2
   ·rw [at_ne h2]
    exact g.ord i i0 hi h1 h2
 ·rw [List.length_set] at hi
  rw [at_eq hp hl, at_ne (show i ≠ h by omega)]
  have := g.ord i i0 hi (by omega) (by omega)
  rw [hq] at this
  exact this
 ·rw [at_eq hp hl]
  exact hx
def Plcs (P : Nat → Int) (Q : List Nat) : Prop := ∀ i, i < Q.length → P (at' Q i) = i
theorem Plcs.inj {P : Nat → Int} {Q : List Nat} (h : Plcs P Q) {i j : Nat} (hi : i < Q.length) (hj : j < Q.length) (e : at' Q i = at' Q j) : i = j := by
 have h1 := h i hi
 have h2 := h j hj
 rw [e, h2] at h1
 omega
theorem mem_set {Q : List Nat} {h x p : Nat} (hl : h < Q.length) (hn : p ∈ Q.set h x) : p = x ∨ ∃ i, i < Q.length ∧ i ≠ h ∧ at' Q i = p := by
 obtain ⟨i, hi, e⟩ := at_ex hn
 rw [List.length_set] at hi
 rw [at_set] at e
 by_cases h1 : i = h ∧ h < Q.length
 ·rw [if_pos h1] at e; exact .inl e.symm
 ·rw [if_neg h1] at e; exact .inr ⟨i, hi, fun e2 => h1 ⟨e2, hl⟩, e⟩
end Go.Proofs.YtmjeljldmmkcpaaGreat.Sq
namespace Go.Proofs.YtmjeljldmmkcpaaGreat.Sq
open Go.RowKit Go.PlainAid
open Dk (ptr Aa Ac Ad Af OwnR OwnP OwnS Mv Am Elt A4)
structure Itm where
 k : BA
 v : Option Addr
 u : Int
abbrev Ca (i : Itm) (p : Int) : Array Value := #[.string i.k, .pointer i.v, .int .i64 i.u, .int .i64 p]
def Its (w : World) (B : Nat) (L : List Nat) (I : Nat → Itm) (P : Nat → Int) : Prop := ∀ p ∈ L, B ≤ p ∧ w.heap[p]? = some (.cells (Ca (I p) (P p)) 96 (0, 0))
def upd {α : Type} (f : Nat → α) (p : Nat) (x : α) : Nat → α := fun q => if q = p then x else f q
theorem Br {α : Type} (f : Nat → α) (p : Nat) (x : α) : upd f p x p = x := if_pos rfl
theorem Bl {α : Type} (f : Nat → α) {p q : Nat} (x : α) (h : q ≠ p) : upd f p x q = f q := if_neg h
structure Sd where
 x : Nat
 E : Int
 T : Int
 d : Nat
 v : Nat
abbrev By (S : Sd) (q : Value) : Array Value := #[.int .u64 (S.x : Nat), .int .i64 S.E, .int .i64 S.T, ptr S.d, q, ptr S.v]
def qtag (t : TypeId) : Bool := t == 85 || t == 96 || t == 78
structure Rq (w : World) (B g c : Nat) (Q : List Nat) (h : Nat) : Prop where
 ex : ∃ cur : Array Value, w.heap[g]? = some (.cells cur 78 (0, 0)) ∧ cur.size = c ∧ ∀ i, i < Q.length → i ≠ h → cur[i]? = some (ptr (at' Q i))
 le : Q.length ≤ c
 mx : c ≤ maxLen
 low : B ≤ g
structure Hs (w : World) (B s : Nat) (S : Sd) (g c : Nat) (L : List Nat) (I : Nat → Itm) (P : Nat → Int) (Q : List Nat) (h : Nat) : Prop where
 blk : w.heap[s]? = some (.cells (By S (.slice (some ⟨g, 0, none⟩) Q.length c)) 85 (0, 0))
 row : Rq w B g c Q h
 its : Its w B L I P
 sub : ∀ i, i < Q.length → i ≠ h → at' Q i ∈ L
 plc : ∀ i, i < Q.length → i ≠ h → P (at' Q i) = i
 low : B ≤ s
 few : Q.length ≤ 1000000
theorem Its.kept {w w' : World} {B : Nat} {L : List Nat} {I : Nat → Itm} {P : Nat → Int} (h : Its w B L I P) (hb : ∀ p ∈ L, w'.heap[p]? = w.heap[p]?) : Its w' B L I P := fun p hp => ⟨(h p hp).1, by rw [hb p hp]; exact (h p hp).2⟩
theorem Its.lt {w : World} {B : Nat} {L : List Nat} {I : Nat → Itm} {P : Nat → Int} (h : Its w B L I P) {p : Nat} (hp : p ∈ L) : p < w.heap.size := (Array.getElem?_eq_some_iff.1 (h p hp).2).1
theorem Its.mv {w w' : World} {B : Nat} {L : List Nat} {I : Nat → Itm} {P : Nat → Int} {t : TypeId → Bool} (h : Its w B L I P) (hm : Mv t w w') (ht : t 96 = false) : Its w' B L I P := h.kept fun p hp => hm.block p _ _ (h p hp).2 ht
theorem Its.ck {w : World} {B : Nat} {L : List Nat} {I : Nat → Itm} {P : Nat → Int} (h : Its w B L I P) {p : Nat} (hp : p ∈ L) : w.cell? ⟨p, 0, none⟩ = some (.string (I p).k) := by simp [World.cell?, (h p hp).2]
theorem Its.cv {w : World} {B : Nat} {L : List Nat} {I : Nat → Itm} {P : Nat → Int} (h : Its w B L I P) {p : Nat} (hp : p ∈ L) : w.cell? ⟨p, 1, none⟩ = some (.pointer (I p).v) := by simp [World.cell?, (h p hp).2]
theorem Its.cu {w : World} {B : Nat} {L : List Nat} {I : Nat → Itm} {P : Nat → Int} (h : Its w B L I P) {p : Nat} (hp : p ∈ L) : w.cell? ⟨p, 2, none⟩ = some (.int .i64 (I p).u) := by simp [World.cell?, (h p hp).2]
theorem Its.cp {w : World} {B : Nat} {L : List Nat} {I : Nat → Itm} {P : Nat → Int} (h : Its w B L I P) {p : Nat} (hp : p ∈ L) : w.cell? ⟨p, 3, none⟩ = some (.int .i64 (P p)) := by simp [World.cell?, (h p hp).2]
theorem Its.fz {w : World} {B : Nat} {L : List Nat} {I : Nat → Itm} {P : Nat → Int} (h : Its w B L I P) {p : Nat} (hp : p ∈ L) (o : Nat) : w.frozen? ⟨p, o, none⟩ = false := by simp [World.frozen?, (h p hp).2]
theorem Ak {w : World} {q o : Nat} {cs : Array Value} {t : TypeId} {v : Value} (h : w.heap[q]? = some (.cells cs t (0, 0))) : (w.setCell ⟨q, o, none⟩ v).heap[q]? = some (.cells (cs.setIfInBounds o v) t (0, 0)) := by
 simp [World.setCell, Array.getElem?_modify, h]
theorem Ar {w : World} {q o k : Nat} {v : Value} (h : k ≠ q) : (w.setCell ⟨q, o, none⟩ v).heap[k]? = w.heap[k]? := Below.heap_setCell _ _ _ _ h
theorem Mv.set {p : TypeId → Bool} {w : World} {q o : Nat} {v : Value} {cs : Array Value} {t : TypeId} (h : w.heap[q]? = some (.cells cs t (0, 0))) (ht : p t = true) : Mv p w (w.setCell ⟨q, o, none⟩ v) :=
 ⟨rfl, rfl, rfl, by simp [World.setCell], fun k cs' t' hk hp => Ar (fun e => by
  subst e
  rw [h] at hk
  injection hk with hk
  injection hk with _ e2
  rw [← e2, ht] at hp
  cases hp)⟩
structure Mb (p : TypeId → Bool) (B : Nat) (w w' : World) : Prop where
 mv : Mv p w w'
 be : Below B w w'
theorem Mb.of_below {p : TypeId → Bool} {B : Nat} {w w' : World} (h : Below w.heap.size w w') (hB : B ≤ w.heap.size) : Mb p B w w' := ⟨Mv.of_below h, ⟨h.os, h.tape, h.output, h.size, fun k hk => h.block k (Nat.lt_of_lt_of_le hk hB)⟩⟩
theorem Mb.refl (p : TypeId → Bool) (B : Nat) (w : World) : Mb p B w w := ⟨⟨rfl, rfl, rfl, Nat.le_refl _, fun _ _ _ _ _ => rfl⟩, ⟨rfl, rfl, rfl, Nat.le_refl _, fun _ _ => rfl⟩⟩
theorem Mb.trans {p : TypeId → Bool} {B : Nat} {w w1 w2 : World} (h : Mb p B w w1) (k : Mb p B w1 w2) : Mb p B w w2 :=
 ⟨h.mv.trans k.mv, ⟨k.be.os.trans h.be.os, k.be.tape.trans h.be.tape, k.be.output.trans h.be.output, Nat.le_trans h.be.size k.be.size, fun i hi => (k.be.block i hi).trans (h.be.block i hi)⟩⟩
theorem Mb.set {p : TypeId → Bool} {B : Nat} {w : World} {q o : Nat} {v : Value} {cs : Array Value} {t : TypeId} (h : w.heap[q]? = some (.cells cs t (0, 0))) (ht : p t = true) (hB : B ≤ q) : Mb p B w (w.setCell ⟨q, o, none⟩ v) :=
 ⟨Mv.set h ht, ⟨rfl, rfl, rfl, by simp [World.setCell], fun k hk => Ar (by omega)⟩⟩
theorem Mb.mono {p p' : TypeId → Bool} {B : Nat} {w w' : World} (h : Mb p B w w') (hp : ∀ t, p t = true → p' t = true) : Mb p' B w w' :=
 ⟨⟨h.mv.os, h.mv.tape, h.mv.output, h.mv.size, fun k cs t hk ht => h.mv.block k cs t hk (by
  cases e : p t with
  | false => rfl
  | true => rw [hp t e] at ht; cases ht)⟩, h.be⟩
theorem Bj {w : World} {p q : Nat} {cs ds : Array Value} {t u : TypeId} (h : w.heap[p]? = some (.cells cs t (0, 0))) (k : w.heap[q]? = some (.cells ds u (0, 0))) (hn : t ≠ u) : p ≠ q := by
 intro e
 subst e
 rw [h] at k
 injection k with k
 injection k with _ e2
 exact hn e2
theorem Its.place {w : World} {B : Nat} {L : List Nat} {I : Nat → Itm} {P : Nat → Int} (h : Its w B L I P) {q : Nat} (hq : q ∈ L) (n : Int) : Its (w.setCell ⟨q, 3, none⟩ (.int .i64 n)) B L I (upd P q n) := by
 intro p hp
 refine ⟨(h p hp).1, ?_⟩
 by_cases e : p = q
 ·subst e
  rw [Ak (h p hp).2, Br]
  rfl
 ·rw [Ar e, Bl P n e]
  exact (h p hp).2
theorem Its.until {w : World} {B : Nat} {L : List Nat} {I : Nat → Itm} {P : Nat → Int} (h : Its w B L I P) {q : Nat} (hq : q ∈ L) (n : Int) : Its (w.setCell ⟨q, 2, none⟩ (.int .i64 n)) B L (upd I q { I q with u := n }) P := by
 intro p hp
 refine ⟨(h p hp).1, ?_⟩
 by_cases e : p = q
 ·subst e
  rw [Ak (h p hp).2, Br]
  rfl
 ·rw [Ar e, Bl I _ e]
  exact (h p hp).2
theorem Its.value {w : World} {B : Nat} {L : List Nat} {I : Nat → Itm} {P : Nat → Int} (h : Its w B L I P) {q : Nat} (hq : q ∈ L) (n : Option Addr) : Its (w.setCell ⟨q, 1, none⟩ (.pointer n)) B L (upd I q { I q with v := n }) P := by
 intro p hp
 refine ⟨(h p hp).1, ?_⟩
 by_cases e : p = q
 ·subst e
  rw [Ak (h p hp).2, Br]
  rfl
 ·rw [Ar e, Bl I _ e]
  exact (h p hp).2
section
variable {w : World} {B s : Nat} {S : Sd} {g c : Nat} {L : List Nat} {I : Nat → Itm} {P : Nat → Int} {Q : List Nat} {h : Nat}
theorem Hs.head (H : Hs w B s S g c L I P Q h) : w.cell? ⟨s, 4, none⟩ = some (.slice (some ⟨g, 0, none⟩) Q.length c) := by simp [World.cell?, H.blk]
theorem Hs.cell (H : Hs w B s S g c L I P Q h) {i : Nat} (hi : i < Q.length) (hn : i ≠ h) : w.cell? ⟨g, i, none⟩ = some (ptr (at' Q i)) := by
 obtain ⟨cur, h1, h2, h3⟩ := H.row.ex
 simp only [World.cell?, h1]
 exact h3 i hi hn
theorem Hs.any (H : Hs w B s S g c L I P Q h) {i : Nat} (hi : i < Q.length) : ∃ v, w.cell? ⟨g, i, none⟩ = some v := by
 obtain ⟨cur, h1, h2, h3⟩ := H.row.ex
 have hl : i < cur.size := by have := H.row.le; omega
 exact ⟨cur[i], by simp [World.cell?, h1, hl]⟩
theorem Hs.fz (H : Hs w B s S g c L I P Q h) (i : Nat) : w.frozen? ⟨g, i, none⟩ = false := by
 obtain ⟨cur, h1, h2, h3⟩ := H.row.ex
 simp [World.frozen?, h1]
theorem Hs.lay (H : Hs w B s S g c L I P Q h) {q : Nat} (hq : q ∈ L) (hh : h < Q.length) (h2 : Nat) (hne : ∀ i, i < Q.length → i ≠ h → i ≠ h2 → at' Q i ≠ q) :
  Hs ((w.setCell ⟨g, h, none⟩ (ptr q)).setCell ⟨q, 3, none⟩ (.int .i64 h)) B s S g c L I (upd P q h) (Q.set h q) h2 ∧ Mb qtag B w ((w.setCell ⟨g, h, none⟩ (ptr q)).setCell ⟨q, 3, none⟩ (.int .i64 h)) := by
 obtain ⟨cur, k1, k2, k3⟩ := H.row.ex
 have hI := H.its q hq
 have hgq : g ≠ q := Bj k1 hI.2 (by decide)
 have hsg : s ≠ g := Bj H.blk k1 (by decide)
 have hsq : s ≠ q := Bj H.blk hI.2 (by decide)
 have n1 : (w.setCell ⟨g, h, none⟩ (ptr q)).heap[q]? = some (.cells (Ca (I q) (P q)) 96 (0, 0)) := by rw [Ar (Ne.symm hgq)]; exact hI.2
 refine ⟨⟨?_, ⟨⟨cur.setIfInBounds h (ptr q), ?_, by rw [Array.size_setIfInBounds]; exact k2, ?_⟩, by rw [List.length_set]; exact H.row.le, H.row.mx, H.row.low⟩, ?_, ?_, ?_, H.low, by rw [List.length_set]; exact H.few⟩, ?_⟩
 ·rw [Ar hsq, Ar hsg, List.length_set]; exact H.blk
 ·rw [Ar hgq, Ak k1]
 ·intro i hi hn
  rw [List.length_set] at hi
  have hc : h < cur.size := by have := H.row.le; omega
  by_cases e : i = h
  ·subst e
   rw [at_eq rfl hh]
   simp [hc]
  ·rw [at_ne e, Array.getElem?_setIfInBounds_ne (Ne.symm e)]
   exact k3 i hi e
 ·refine Its.place (fun p hp => ⟨(H.its p hp).1, ?_⟩) hq h
  rw [Ar (Ne.symm (Bj k1 (H.its p hp).2 (by decide)))]
  exact (H.its p hp).2
 ·intro i hi hn
  rw [List.length_set] at hi
  by_cases e : i = h
  ·rw [at_eq e hh]; exact hq
  ·rw [at_ne e]; exact H.sub i hi e
 ·intro i hi hn
  rw [List.length_set] at hi
  by_cases e : i = h
  ·rw [at_eq e hh, Br, e]
  ·rw [at_ne e, Bl P _ (hne i hi e hn)]; exact H.plc i hi e
 ·exact (Mb.set (p := qtag) k1 (by decide) H.row.low).trans (Mb.set (p := qtag) n1 (by decide) hI.1)
end
abbrev un (I : Nat → Itm) : Nat → Int := fun p => (I p).u
structure Way (w0 w : World) (B s : Nat) (S : Sd) (g c : Nat) (L : List Nat) (I : Nat → Itm) (P0 : Nat → Int) (Q0 : List Nat) (h0 it : Nat) (P : Nat → Int) (Q : List Nat) (h : Nat) : Prop where
 hs : Hs w B s S g c L I P Q h
 gap : Gap (un I) Q h
 lt : h < Q.length
 new : ∀ i, i < Q.length → i ≠ h → at' Q i ≠ it
 perm : (Q.set h it).Perm (Q0.set h0 it)
 out : ∀ q, q ∉ Q0.set h0 it → P q = P0 q
 mv : Mb qtag B w0 w
structure Fin (w0 w : World) (B s : Nat) (S : Sd) (g c : Nat) (L : List Nat) (I : Nat → Itm) (P0 : Nat → Int) (Q0 : List Nat) (h0 it : Nat) (P : Nat → Int) (Q : List Nat) : Prop where
 hs : Hs w B s S g c L I P Q Q.length
 perm : Q.Perm (Q0.set h0 it)
 out : ∀ q, q ∉ Q0.set h0 it → P q = P0 q
 mv : Mb qtag B w0 w
def kids (I : Nat → Itm) (Q : List Nat) (h it : Nat) : Prop := ∀ i, 0 < i → i < Q.length → (i - 1) / 2 = h → un I it ≤ un I (at' Q i)
def ahead (I : Nat → Itm) (Q : List Nat) (h it : Nat) : Prop := 0 < h → un I (at' Q ((h - 1) / 2)) ≤ un I it
section
variable {w0 w : World} {B s : Nat} {S : Sd} {g c : Nat} {L : List Nat} {I : Nat → Itm} {P0 : Nat → Int} {Q0 : List Nat} {h0 it : Nat} {P : Nat → Int} {Q : List Nat} {h : Nat}
theorem Way.len (W : Way w0 w B s S g c L I P0 Q0 h0 it P Q h) : Q.length = Q0.length := by
 have := W.perm.length_eq
 rwa [List.length_set, List.length_set] at this
theorem Way.fill (W : Way w0 w B s S g c L I P0 Q0 h0 it P Q h) {a : Nat} (ha : a < Q.length) (hne : a ≠ h) {w' : World} (hw : w' = (w.setCell ⟨g, h, none⟩ (ptr (at' Q a))).setCell ⟨at' Q a, 3, none⟩ (.int .i64 h)) (hg : Gap (un I) (Q.set h (at' Q a)) a) :
  Way w0 w' B s S g c L I P0 Q0 h0 it (upd P (at' Q a) h) (Q.set h (at' Q a)) a := by
 have hin := W.hs.sub a ha hne
 obtain ⟨k1, k2⟩ := W.hs.lay hin W.lt a (fun i hi h1 h2 e => h2 (by
  have e1 := W.hs.plc i hi h1
  have e2 := W.hs.plc a ha hne
  rw [e, e2] at e1
  omega))
 rw [← hw] at k1 k2
 refine ⟨k1, hg, by rw [List.length_set]; exact ha, ?_, (swap_perm Q h a it W.lt ha hne).trans W.perm, ?_, W.mv.trans k2⟩
 ·intro i hi hn
  rw [List.length_set] at hi
  by_cases e : i = h
  ·rw [at_eq e W.lt]; exact W.new a ha hne
  ·rw [at_ne e]; exact W.new i hi e
 ·intro q hq
  rw [Bl]
  ·exact W.out q hq
  ·intro e
   apply hq
   rw [e]
   refine W.perm.mem_iff.1 ?_
   have := at_mem (Q := Q.set h it) (i := a) (by rw [List.length_set]; exact ha)
   rw [at_ne hne] at this
   exact this
theorem Way.lay (W : Way w0 w B s S g c L I P0 Q0 h0 it P Q h) (hit : it ∈ L) {w' : World} (hw : w' = (w.setCell ⟨g, h, none⟩ (ptr it)).setCell ⟨it, 3, none⟩ (.int .i64 h)) :
  Fin w0 w' B s S g c L I P0 Q0 h0 it (upd P it h) (Q.set h it) := by
 obtain ⟨k1, k2⟩ := W.hs.lay hit W.lt (Q.set h it).length (fun i hi h1 _ => W.new i hi h1)
 rw [← hw] at k1 k2
 refine ⟨k1, W.perm, ?_, W.mv.trans k2⟩
 intro q hq
 rw [Bl]
 ·exact W.out q hq
 ·intro e
  apply hq
  rw [e]
  refine W.perm.mem_iff.1 ?_
  have := at_mem (Q := Q.set h it) (i := h) (by rw [List.length_set]; exact W.lt)
  rw [at_eq rfl W.lt] at this
  exact this
theorem Fin.ofWay {Q1 : List Nat} {P1 : Nat → Int} {h1 : Nat} (W : Fin w0 w B s S g c L I P0 Q0 h0 it P Q) {w1 : World} (F : Fin w w1 B s S g c L I P Q h1 it P1 Q1) (he : Q.set h1 it = Q) : Fin w0 w1 B s S g c L I P0 Q0 h0 it P1 Q1 := by
 have hp := F.perm
 have ho := F.out
 rw [he] at hp ho
 exact ⟨F.hs, hp.trans W.perm, fun q hq => (ho q (fun hm => hq (W.perm.mem_iff.1 hm))).trans (W.out q hq), W.mv.trans F.mv⟩
end
end Go.Proofs.YtmjeljldmmkcpaaGreat.Sq
