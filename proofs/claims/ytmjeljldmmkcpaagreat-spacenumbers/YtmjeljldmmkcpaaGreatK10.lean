/- Texts that the others stand on. -/
import Derived.Test.YtmjeljldmmkcpaaGreatK9
import Derived.Test.YtmjeljldmmkcpaaGreatK1
import Derived.Test.YtmjeljldmmkcpaaGreatProg
import Derived.WalkKit
import Derived.WalkSpells
import Derived.PlainAid
import Derived.Laws.BitsAllLaws
import Derived.Deep.LoopGhost
import Derived.Deep.Cut
import Derived.Deep.RegionWith
import Derived.Deep.CutRange
import Derived.Deep.QuietTactic
import Derived.BigQuiet
import Derived.Elder7
import Derived.Deep.OwnRows
import Derived.Laws.AppendOwnNone
import Derived.Laws.Rows
import Derived.Laws.Tables
import Derived.Laws.IdiomStrings
import Derived.Lib.IndexBytes
set_option maxRecDepth 100000
set_option maxHeartbeats 8000000
namespace Go.Proofs.YtmjeljldmmkcpaaGreat.Dk
open Go.RowKit Go.PlainAid
theorem Dct.siz {w : World} {B d x : Nat} {D : Dg} (h : Dct w B d x D) : ∀ e ∈ D.es, e.1.size ≤ maxLen := by
 intro e he
 obtain ⟨f, hf, he⟩ := List.mem_flatMap.1 he
 obtain ⟨t, ht, he⟩ := List.mem_flatMap.1 he
 exact ((h.leaf f hf).tab t ht).siz e he
theorem Dct.apart {w : World} {B d x : Nat} {D : Dg} (h : Dct w B d x D) {f : Lf} (hf : f ∈ D.L) : d ∉ f.fp := by
 intro hd
 have := (List.nodup_cons.1 h.nod).1
 exact this (List.mem_cons_of_mem _ (B5 hf hd))
theorem PutD_old (B d x : Nat) (D : Dg) (k : BA) (u v : (Option Addr)) (w : World) (hD : Dct w B d x D) (hk : (k, u) ∈ D.es) :
  Calls Tryz.prog 85 #[ptr d, .string k, .pointer v] w fun e w' => e = .returned (.int .i64 0) ∧ ∃ D', Turn w w' B d x D D' ∧ D'.g = D.g ∧ D'.sh = D.sh ∧ ∃ A C, D.es = A ++ (k, u) :: C ∧ D'.es = A ++ (k, v) :: C := by
 have hks := hD.siz _ hk
 obtain ⟨La, f, Lc, eL, hi, h2, h3⟩ := hD.parts (hsh x k)
 have hf : f ∈ D.L := by rw [eL]; simp
 have hkf : (k, u) ∈ f.es := (hD.mem eL h2 h3).1 hk
 have HKf : Hid ((k, u) ∈ f.es) := hkf
 have HD : Hid (Dct w B d x D) := hD
 have HeL : Hid (D.L = La ++ f :: Lc) := eL
 have Hf : Hid (f ∈ D.L) := hf
 have hc := hD.cseed
 have HOf := fun w => Of_hsh x k w hks hD.seed
 have HLf := fun w hD => A8 B d x D f (hsh x k) w hD hf hi (Cp x k)
 have HHo := fun w hL => holder_yes B x f k w hL hks (List.mem_map.2 ⟨_, hkf, rfl⟩)
 have HKS : Hid (k.size ≤ maxLen) := hks
 generalize hsh x k = h at HOf HLf
 clear hD hk hks hi h2 h3 eL hf hkf
 go_enter Tryz.func85, Tryz.ntmps85
 go_wp2_with fail
 refine (HOf _).mono ?_
 rintro e w ⟨rfl, rfl⟩
 go_wp2_with fail
 refine (HLf _ HD.out).mono ?_
 rintro e w1 ⟨rfl, hb1⟩
 have HB1 : Hid (Below w.heap.size w w1) := hb1
 have hHo := HHo _ ((HD.out.keep hb1).leaf f Hf.out)
 clear HOf HLf HHo hb1
 go_wp2_with fail
 refine hHo.mono ?_
 rintro e w2 ⟨hb2, t, rfl, htm, hk2⟩
 have HB2 := Ad HB1 hb2
 have HL2 : Hid (Leaf w2 B x f) := (HD.out.keep HB2.out).leaf f Hf.out
 have Htm : Hid (t ∈ f.ts) := htm
 have hP := Put_old _ _ _ _ _ _ k v _ (HL2.out.tab t htm) HKS.out hk2
 clear hb2 htm hk2 hHo HB1
 go_wp2_with fail
 refine hP.mono ?_
 rintro e w3 ⟨rfl, hm3, z3, hT3, a3, c3, u3, hz, hz3⟩
 have HR : Hid (∃ D', Turn w w3 B d x D D' ∧ D'.g = D.g ∧ D'.sh = D.sh ∧ ∃ A C, D.es = A ++ (k, u) :: C ∧ D'.es = A ++ (k, v) :: C) := by
  obtain ⟨pre, post, ets⟩ := List.append_of_mem Htm.out
  have hu : u3 = u := by
   refine val_one HL2.out.key (k := k) ?_ HKf.out
   refine List.mem_flatMap.2 ⟨t, Htm.out, ?_⟩
   show _ ∈ ents t.z
   rw [hz]; simp
  subst hu
  have e1 : f.es = (tsEs pre ++ a3) ++ (k, u3) :: (c3 ++ tsEs post) := by
   unfold Lf.es
   rw [ets, An, Bh]
   unfold Tb.es
   rw [hz]
   simp
  have e2 : tsEs (pre ++ ⟨t.p, t.b, t.G, z3⟩ :: post) = (tsEs pre ++ a3) ++ (k, v) :: (c3 ++ tsEs post) := by
   rw [An, Bh]
   unfold Tb.es
   rw [hz3]
   simp
  have hkn : (Ae (tsEs (pre ++ ⟨t.p, t.b, t.G, z3⟩ :: post))).Nodup := by
   have := HL2.out.key
   rw [e1] at this
   rw [e2]
   simpa [Ae] using this
  obtain ⟨k1, k2, k3⟩ := HL2.out.turn ets (Stay.of_moves hm3) hT3 (.inl rfl) hkn
  have hG : Grew w2 w3 B x f { f with ts := pre ++ ⟨t.p, t.b, t.G, z3⟩ :: post } := ⟨k1, k3, k2, rfl, rfl, rfl⟩
  have hD2 := HD.out.keep HB2.out
  have el : (esL (La ++ { f with ts := pre ++ ⟨t.p, t.b, t.G, z3⟩ :: post } :: Lc)).length = D.es.length := by
   unfold Dg.es
   rw [HeL.out, Aq, Aq, Ax, Ax, e1]
   simp only [Lf.es, e2]
   simp
  have hT := hD2.turn HeL.out hG (w'' := w3) (by rw [el, k3.block d hD2.lt (hD2.apart Hf.out)]; exact hD2.blk) (Stay.of_below (Below.refl _ _) _) ?_ ?_ ?_ (by rw [el]; exact hD2.le)
  ·refine ⟨_, hT.first HB2.out, rfl, ?_, esL La ++ (tsEs pre ++ a3), (c3 ++ tsEs post) ++ esL Lc, ?_, ?_⟩
   ·unfold Dg.sh shL
    rw [HeL.out, List.map_append, List.map_append]
    rfl
   ·unfold Dg.es
    rw [HeL.out, Aq, Ax, e1]
    simp
   ·show esL _ = _
    rw [Aq, Ax]
    show esL La ++ (tsEs _ ++ _) = _
    rw [e2]
    simp
  ·intro e he
   have he2 : e ∈ tsEs (pre ++ ⟨t.p, t.b, t.G, z3⟩ :: post) := he
   rw [e2] at he2
   have ho := HD.out.own f Hf.out
   rw [e1] at ho
   rcases List.mem_append.1 he2 with he2 | he2
   ·exact ho e (List.mem_append.2 (.inl he2))
   ·rcases List.mem_cons.1 he2 with rfl | he2
    ·exact ho (k, u3) (by simp)
    ·exact ho e (List.mem_append.2 (.inr (List.mem_cons_of_mem _ he2)))
  ·intro hl
   have := HD.out.one f Hf.out hl
   rw [ets] at this
   simp at this ⊢
   omega
  ·rcases HD.out.ful f Hf.out with h1 | h1
   ·refine .inl ?_
    rw [ets] at h1
    simp at h1 ⊢
    omega
   ·refine .inr fun y hy => ?_
    rcases List.mem_append.1 hy with hy | hy
    ·exact h1 y (by rw [ets]; simp [hy])
    ·rcases List.mem_cons.1 hy with rfl | hy
     ·show 0 < (ents z3).length
      rw [hz3, List.length_append, List.length_cons]; omega
     ·exact h1 y (by rw [ets]; simp [hy])
 clear hm3 hT3 hz hz3 hP
 go_wp2
 go_ret
 exact ⟨rfl, HR.out⟩
theorem DeleteD_no (B d x : Nat) (D : Dg) (k : BA) (w : World) (hD : Dct w B d x D) (hks : k.size ≤ maxLen) (hk : k ∉ Ae D.es) :
  Calls Tryz.prog 94 #[ptr d, .string k] w fun e w' => e = .returned (.bool false) ∧ Below w.heap.size w w' := by
 obtain ⟨La, f, Lc, eL, hi, h2, h3⟩ := hD.parts (hsh x k)
 have hf : f ∈ D.L := by rw [eL]; simp
 have HD : Hid (Dct w B d x D) := hD
 have Hf : Hid (f ∈ D.L) := hf
 have hc := hD.cseed
 have HOf := fun w => Of_hsh x k w hks hD.seed
 have HLf := fun w hD => A8 B d x D f (hsh x k) w hD hf hi (Cp x k)
 have HRe := fun w hL => remove_no B x f k w hL hks (fun h => hk ((hD.memk eL h2 h3).2 h))
 generalize hsh x k = h at HOf HLf
 clear hD hk hks hi h2 h3 eL hf
 go_enter Tryz.func94, Tryz.ntmps94
 go_wp2_with fail
 refine (HOf _).mono ?_
 rintro e w ⟨rfl, rfl⟩
 go_wp2_with fail
 refine (HLf _ HD.out).mono ?_
 rintro e w1 ⟨rfl, hb1⟩
 have HB1 : Hid (Below w.heap.size w w1) := hb1
 have hRe := HRe _ ((HD.out.keep hb1).leaf f Hf.out)
 clear HOf HLf HRe hb1
 go_wp2_with fail
 refine hRe.mono ?_
 rintro e w2 ⟨rfl, hb2⟩
 have HB2 := Ad HB1 hb2
 clear hb2 hRe
 go_wp2
 go_ret
 exact ⟨rfl, HB2.out⟩
theorem DeleteD_yes (B d x : Nat) (D : Dg) (k : BA) (w : World) (hD : Dct w B d x D) (hk : k ∈ Ae D.es) :
  Calls Tryz.prog 94 #[ptr d, .string k] w fun e w' => e = .returned (.bool true) ∧ ∃ D', Turn w w' B d x D D' ∧ D'.g = D.g ∧ D'.sh = D.sh ∧ ∃ u, D.es.Perm ((k, u) :: D'.es) := by
 obtain ⟨⟨k', u0⟩, hku, rfl⟩ := List.mem_map.1 hk
 have hks := hD.siz _ hku
 obtain ⟨La, f, Lc, eL, hi, h2, h3⟩ := hD.parts (hsh x k')
 have hf : f ∈ D.L := by rw [eL]; simp
 have HD : Hid (Dct w B d x D) := hD
 have HeL : Hid (D.L = La ++ f :: Lc) := eL
 have Hf : Hid (f ∈ D.L) := hf
 have hc := hD.cseed
 have HOf := fun w => Of_hsh x k' w hks hD.seed
 have HLf := fun w hD => A8 B d x D f (hsh x k') w hD hf hi (Cp x k')
 have HRe := fun w hL => remove_yes B x f k' w hL hks ((hD.memk eL h2 h3).1 hk)
 generalize hsh x k' = h at HOf HLf
 clear hD hk hks hi h2 h3 eL hf hku
 go_enter Tryz.func94, Tryz.ntmps94
 go_wp2_with fail
 refine (HOf _).mono ?_
 rintro e w ⟨rfl, rfl⟩
 go_wp2_with fail
 refine (HLf _ HD.out).mono ?_
 rintro e w1 ⟨rfl, hb1⟩
 have HB1 : Hid (Below w.heap.size w w1) := hb1
 have hRe := HRe _ ((HD.out.keep hb1).leaf f Hf.out)
 clear HOf HLf HRe hb1
 go_wp2_with fail
 refine hRe.mono ?_
 rintro e w2 ⟨rfl, f', hG, ⟨u, hp⟩, hone, hful⟩
 have hD1 := HD.out.keep HB1.out
 have hblk : w2.heap[d]? = w1.heap[d]? := hG.stay.block d hD1.lt (hD1.apart Hf.out)
 have hc2 : w2.cell? ⟨d, 1, none⟩ = some (.int .i64 (D.es.length : Nat)) := by rw [World.cell?_of_block hblk]; exact hD1.ccnt
 have hf2 : w2.frozen? ⟨d, 1, none⟩ = false := by have := hD1.blk; rw [← hblk] at this; simp [World.frozen?, this]
 have hPm : D.es.Perm ((k', u) :: esL (La ++ f' :: Lc)) := by
  unfold Dg.es
  rw [HeL.out, Aq, Aq, Ax, Ax]
  refine (List.Perm.append_left _ (hp.append_right _)).trans ?_
  exact List.perm_middle
 have hlen : (esL (La ++ f' :: Lc)).length + 1 = D.es.length := by rw [hPm.length_eq]; rfl
 have hle := HD.out.le
 have HR : Hid (∃ D', Turn w (w2.setCell ⟨d, 1, none⟩ (.int .i64 ((esL (La ++ f' :: Lc)).length : Nat))) B d x D D' ∧ D'.g = D.g ∧ D'.sh = D.sh ∧ ∃ u, D.es.Perm ((k', u) :: D'.es)) := by
  have hT := hD1.turn HeL.out hG (w'' := w2.setCell ⟨d, 1, none⟩ (.int .i64 ((esL (La ++ f' :: Lc)).length : Nat))) (by have := hD1.blk; rw [← hblk] at this; rw [Ak this]; rfl) Stay.set ?_ ?_ ?_ (by omega)
  ·refine ⟨_, hT.first HB1.out, rfl, ?_, u, hPm⟩
   have : f'.pt = f.pt := by unfold Lf.pt; rw [hG.l, hG.q]
   unfold Dg.sh shL
   rw [HeL.out, List.map_append, List.map_append, List.map_cons, List.map_cons, this]
  ·intro e he
   exact HD.out.own f Hf.out e (hp.mem_iff.2 (List.mem_cons_of_mem _ he))
  ·intro hl
   exact hone (HD.out.one f Hf.out hl)
  ·exact hful (HD.out.ful f Hf.out)
 generalize hn : (esL (La ++ f' :: Lc)).length = n at hlen HR
 generalize D.es.length = m at hlen hc2 hle
 have hnz : (m : Int) - 1 = (n : Nat) := by omega
 clear hG hp hone hful hD1 hblk hPm hRe hn
 go_wp2
 go_ret
 exact ⟨rfl, HR.out⟩
def cntIn (x : Nat) (ks : List BA) (s : Pt) : Nat := (ks.filter fun k => isIn s (hsh x k)).length
theorem cntIn_perm {x : Nat} {ks ks' : List BA} (h : ks.Perm ks') (s : Pt) : cntIn x ks s = cntIn x ks' s := (h.filter _).length_eq
def pidx (sh : List Pt) (h : Nat) : Nat := sh.findIdx fun s => isIn s h
def grow (x : Nat) (ks : List BA) (h : Nat) : Nat → Nat → List Pt → Nat × List Pt
 | 0, g, sh => (g, sh)
 | n + 1, g, sh =>
  match sh[pidx sh h]? with
  | some (l, q) => if l < 16 ∧ 112 ≤ cntIn x ks (l, q) then grow x ks h n (max g (l + 1)) (sh.set (pidx sh h) (l + 1, q) ++ [(l + 1, q + 2 ^ l)]) else (g, sh)
  | none => (g, sh)
theorem pidx_at {a c : List Pt} {s : Pt} {h : Nat} (hi : isIn s h = true) (ha : ∀ t ∈ a, isIn t h = false) : pidx (a ++ s :: c) h = a.length := by
 unfold pidx
 rw [List.findIdx_append, List.findIdx_eq_length.2 (by intro t ht; exact ha t ht)]
 simp [List.findIdx_cons, hi]
theorem grow_no {x : Nat} {ks : List BA} {h n g : Nat} {a c : List Pt} {l q : Nat} (hi : isIn (l, q) h = true) (ha : ∀ t ∈ a, isIn t h = false) (h1 : ¬ (l < 16 ∧ 112 ≤ cntIn x ks (l, q))) :
  grow x ks h n g (a ++ (l, q) :: c) = (g, a ++ (l, q) :: c) := by
 cases n with
 | zero => rfl
 | succ n =>
  rw [grow, pidx_at hi ha, List.getElem?_append_right (Nat.le_refl _), Nat.sub_self]
  simp only [List.getElem?_cons_zero]
  rw [if_neg h1]
theorem Dct.keys_of {w : World} {B d x : Nat} {D : Dg} (h : Dct w B d x D) {La Lc : List Lf} {f : Lf} (e : D.L = La ++ f :: Lc) : (Ae D.es).filter (fun k => isIn f.pt (hsh x k)) = Ae f.es := by
 have hnod := h.nod
 rw [e, Bg, Bw] at hnod
 obtain ⟨-, n2⟩ := List.nodup_cons.1 hnod
 obtain ⟨-, n4⟩ := List.nodup_cons.1 n2
 rw [List.nodup_append, List.nodup_append] at n4
 obtain ⟨-, ⟨-, -, n8⟩, n9⟩ := n4
 have hf : f ∈ D.L := by rw [e]; simp
 have hno : ∀ (M : List Lf), (∀ u ∈ M, u ∈ D.L ∧ u ≠ f) → (Ae (esL M)).filter (fun k => isIn f.pt (hsh x k)) = [] := by
  intro M hM
  rw [List.filter_eq_nil_iff]
  intro k hk hd
  obtain ⟨en, he, rfl⟩ := List.mem_map.1 hk
  obtain ⟨u, hu, he⟩ := List.mem_flatMap.1 he
  exact (hM u hu).2 (h.same (hM u hu).1 hf (h.own u (hM u hu).1 en he) hd)
 have ha : ∀ u ∈ La, u ∈ D.L ∧ u ≠ f := fun u hu => ⟨by rw [e]; simp [hu], fun e2 => by subst e2; exact n9 u.a (B5 hu (by simp [Lf.fp])) u.a (by simp [Lf.fp]) rfl⟩
 have hc : ∀ u ∈ Lc, u ∈ D.L ∧ u ≠ f := fun u hu => ⟨by rw [e]; simp [hu], fun e2 => by subst e2; exact n8 u.a (by simp [Lf.fp]) u.a (B5 hu (by simp [Lf.fp])) rfl⟩
 unfold Dg.es
 rw [e, Aq, Ax, Aj, Aj, List.filter_append, List.filter_append, hno La ha, hno Lc hc, List.nil_append, List.append_nil, List.filter_eq_self]
 intro k hk
 obtain ⟨en, he, rfl⟩ := List.mem_map.1 hk
 exact h.own f hf en he
theorem Dct.cnt_of {w : World} {B d x : Nat} {D : Dg} (h : Dct w B d x D) {La Lc : List Lf} {f : Lf} (e : D.L = La ++ f :: Lc) : cntIn x (Ae D.es) f.pt = f.es.length := by
 unfold cntIn
 rw [h.keys_of e, List.length_map]
theorem PutD_new (B d x : Nat) (D : Dg) (k : BA) (v : (Option Addr)) (w : World) (hD : Dct w B d x D) (hks : k.size ≤ maxLen) (hk : k ∉ Ae D.es) (hle : D.es.length < 112) :
  Calls Tryz.prog 85 #[ptr d, .string k, .pointer v] w fun e w' => e = .returned (.int .i64 0) ∧ ∃ D', Turn w w' B d x D D' ∧ (D'.g, D'.sh) = grow x (Ae D.es) (hsh x k) 17 D.g D.sh ∧ D'.es.Perm (D.es ++ [(k, v)]) := by
 obtain ⟨La, f, Lc, eL, hi, h2, h3⟩ := hD.parts (hsh x k)
 have hf : f ∈ D.L := by rw [eL]; simp
 have HD : Hid (Dct w B d x D) := hD
 have Hf : Hid (f ∈ D.L) := hf
 have hc := hD.cseed
 have hx := hD.seed
 have HOf := fun w => Of_hsh x k w hks hx
 have HLf := fun w hD => A8 B d x D f (hsh x k) w hD hf hi (Cp x k)
 have HHo := fun w hL => holder_no B x f k w hL hks (fun hm => hk ((hD.memk eL h2 h3).2 hm))
 have HKS : Hid (k.size ≤ maxLen) := hks
 have HK : Hid (k ∉ Ae D.es) := hk
 have HLe : Hid (D.es.length < 112) := hle
 have HHs : Hid (hsh x k = hsh x k) := rfl
 obtain ⟨h, eh⟩ : ∃ h, hsh x k = h := ⟨_, rfl⟩
 have HEh : Hid (hsh x k = h) := eh
 have hh : h < 18446744073709551616 := by rw [← eh]; exact Cp x k
 rw [eh] at HOf HLf ⊢
 obtain ⟨R, hR⟩ : ∃ R, grow x (Ae D.es) h 17 D.g D.sh = R := ⟨_, rfl⟩
 have HR : Hid (grow x (Ae D.es) h 17 D.g D.sh = R) := hR
 rw [hR]
 clear hD hk hks hle hi h2 h3 eL hf eh hR HHs
 go_enter Tryz.func85, Tryz.ntmps85
 go_wp2_with fail
 refine (HOf _).mono ?_
 rintro e w ⟨rfl, rfl⟩
 go_wp2_with fail
 refine (HLf _ HD.out).mono ?_
 rintro e w1 ⟨rfl, hb1⟩
 have HB1 : Hid (Below w.heap.size w w1) := hb1
 have hHo := HHo _ ((HD.out.keep hb1).leaf f Hf.out)
 clear HOf HLf HHo hb1
 go_wp2_with fail
 refine hHo.mono ?_
 rintro e w2 ⟨rfl, hb2⟩
 have HB2 := Ad HB1 hb2
 have HT2 : Hid (Turn w w2 B d x D D) := Turn.refl HD.out HB2.out
 clear hb2 hHo HB1 hc Hf HB2
 go_wp2
 go_loopg [] 17 (fun n wr => ∃ D1, Hid (Turn w wr B d x D D1) ∧ Hid (D1.es.Perm D.es) ∧ Hid (grow x (Ae D.es) h n D1.g D1.sh = R) ∧ Hid (∀ f ∈ D1.L, isIn f.pt h = true → 16 < f.l + n))
 case atStart => exact ⟨D, HT2, List.Perm.refl _, HR, (fun f _ _ => by omega : ∀ f ∈ D.L, isIn f.pt h = true → 16 < f.l + 17)⟩
 case round =>
  clear HT2 HR
  obtain ⟨D1, HT, HPm, HR, HMe⟩ := hrel
  have hD1 := HT.out.dct
  obtain ⟨La, f, Lc, eL, hi, h2, h3⟩ := hD1.parts h
  have hf : f ∈ D1.L := by rw [eL]; simp
  have HLf := fun w hD => A8 B d x D1 f h w hD hf hi hh
  have hlf := hD1.lef hf
  have HSp := fun w hL => splits_any B x f w hL hlf.2.1 (hD1.les hf)
  have HeL : Hid (D1.L = La ++ f :: Lc) := eL
  have Hf : Hid (f ∈ D1.L) := hf
  have Hi : Hid (isIn f.pt h = true) := hi
  have Ha : Hid (∀ u ∈ La, isIn u.pt h = false) := h2
  have Hcc : Hid (∀ u ∈ Lc, isIn u.pt h = false) := h3
  have HD1 : Hid (Dct wr B d x D1) := hD1
  have HCn : Hid (cntIn x (Ae D.es) f.pt = f.es.length) := by show _ = _; rw [cntIn_perm (HPm.out.map (·.1)).symm]; exact hD1.cnt_of eL
  have HshE : Hid (D1.sh = shL La ++ (f.l, f.q) :: shL Lc) := by show _ = _; unfold Dg.sh shL; rw [eL, List.map_append]; rfl
  have Ha2 : Hid (∀ s ∈ shL La, isIn s h = false) := fun s hs => by obtain ⟨u, hu, rfl⟩ := List.mem_map.1 hs; exact h2 u hu
  have hme := HMe.out f hf hi
  clear hD1 hf hi h2 h3 eL
  go_wp2_with fail
  refine (HLf _ HD1.out).mono ?_
  rintro e w3 ⟨rfl, hb3⟩
  have HB3 : Hid (Below wr.heap.size wr w3) := hb3
  have hSp := HSp _ ((HD1.out.keep hb3).leaf f Hf.out)
  clear hb3
  go_wp2_with fail
  refine hSp.mono ?_
  rintro e w3 ⟨rfl, rfl⟩
  clear hSp HSp
  have HF9 : Hid (f.es.length < 112) := by
   have h9 := HCn.out
   unfold cntIn at h9
   have h8 := List.length_filter_le (fun k => isIn f.pt (hsh x k)) (Ae D.es)
   have h7 : (Ae D.es).length = D.es.length := by unfold Ae; rw [List.length_map]
   have h6 := HLe.out
   show f.es.length < 112
   omega
  by_cases hb : f.l < 16 ∧ 112 ≤ f.es.length
  ·exfalso
   have h6 := HF9.out
   have h5 := hb.2
   omega
  ·have hbb : (decide (f.l < 16) && decide (112 ≤ f.es.length)) = false := by
    rw [Bool.and_eq_false_iff, decide_eq_false_iff_not, decide_eq_false_iff_not]
    by_cases h1 : f.l < 16
    ·exact .inr (fun h2 => hb ⟨h1, h2⟩)
    ·exact .inl h1
   have HBn : Hid (¬ (f.l < 16 ∧ 112 ≤ f.es.length)) := hb
   have HR5 : Hid ((D1.g, D1.sh) = R) := by
    have := HR.out
    rw [HshE.out, grow_no (a := shL La) (c := shL Lc) (l := f.l) (q := f.q) Hi.out Ha2.out (by have h9 := HCn.out; unfold Lf.pt at h9; rw [h9]; exact hb), ← HshE.out] at this
    exact this
   rw [hbb]
   clear hb hbb
   have HD3 : Hid (Dct w3 B d x D1) := HD1.out.keep HB3.out
   have HT3 : Hid (Turn w w3 B d x D D1) := HT.out.trans (Turn.refl HD1.out HB3.out)
   have HKf : Hid (k ∉ Ae f.es) := fun hm => by
    obtain ⟨en, he, h1⟩ := List.mem_map.1 hm
    exact HK.out (List.mem_map.2 ⟨en, HPm.out.mem_iff.1 (mem_esL Hf.out he), h1⟩)
   have HLf3 : ∀ w', Below w3.heap.size w3 w' → Calls Tryz.prog 120 #[ptr d, .int .u64 h] w' fun e w'' => e = .returned (ptr f.a) ∧ Below w'.heap.size w' w'' := fun w' hb => A8 B d x D1 f h w' (HD3.out.keep hb) Hf.out Hi.out hh
   have HAd : ∀ w', Below w3.heap.size w3 w' → Calls Tryz.prog 126 #[ptr f.a, .int .u64 x, .string k, .pointer v] w' fun e w'' => e = .returned (.tuple #[]) ∧ Added w3 w'' B x f k v := fun w' hb => by
    refine (add_leaf B x f k v w' ((HD3.out.keep hb).leaf f Hf.out) hx HKS.out HKf.out (by have h1 := (HD3.out.ful f Hf.out).le; have h2 := HD3.out.les Hf.out; omega) (by have h1 := (HD3.out.keep hb).low; have h2 := (HD3.out.keep hb).lt; omega) HF9.out).mono ?_
    rintro e w'' ⟨rfl, f', hG, hp, ho, hfu⟩
    exact ⟨rfl, f', hG.first hb, hp, ho, hfu⟩
   have HSd : Hid (∀ w', Below w3.heap.size w3 w' → w'.cell? ⟨d, 0, none⟩ = some (.int .u64 (x : Nat))) := fun w' hb => (HD3.out.keep hb).cseed
   have HSd2 : Hid (∀ w', Added w3 w' B x f k v → w'.cell? ⟨d, 0, none⟩ = some (.int .u64 (x : Nat))) := fun w' hA => by
    obtain ⟨f', hG, -⟩ := hA
    rw [World.cell?_of_block (hG.stay.block d HD3.out.lt (HD3.out.apart Hf.out))]
    exact HD3.out.cseed
   have HDw : Hid (Below w3.heap.size w3 w3.drew) := Aa w3 1
   clear HLf HB3 HT HD1
   go_upto_region 7 with fail
   go_cut [] from 33 to 42 (fun wx => Hid (Added w3 wx B x f k v))
   case first =>
    go_region_held3 (fun w' => w'.cell? ⟨d, 0, none⟩ = some (.int .u64 (x : Nat))) (first | exact HSd.out _ HDw.out | exact HSd2.out _ HAz.out) (first
     | (go_at_call 120; refine (HLf3 _ HDw.out).mono ?_; rintro e wx ⟨rfl, hb⟩; replace HDw := Ad HDw hb; clear hb)
     | (go_at_call 126; refine (HAd _ HDw.out).mono ?_; rintro e wz ⟨rfl, hA⟩; have HAz : Hid (Added w3 wz B x f k v) := hA; clear hA))
    go_wp2
    go_meet
    exact HAz
   case rest =>
   clear HDw HSd HSd2 HAd HLf3
   obtain ⟨f', hG, hp, hone, hful⟩ := hcut.out
   have hD3 := HD3.out
   have hblk : wc.heap[d]? = w3.heap[d]? := hG.stay.block d hD3.lt (hD3.apart Hf.out)
   have hc2 : wc.cell? ⟨d, 1, none⟩ = some (.int .i64 (D1.es.length : Nat)) := by rw [World.cell?_of_block hblk]; exact hD3.ccnt
   have hf2 : wc.frozen? ⟨d, 1, none⟩ = false := by have := hD3.blk; rw [← hblk] at this; simp [World.frozen?, this]
   have hPm2 : (esL (La ++ f' :: Lc)).Perm (D1.es ++ [(k, v)]) := by
    unfold Dg.es
    rw [HeL.out, Aq, Aq, Ax, Ax, List.append_assoc]
    refine List.Perm.append_left _ ?_
    refine (hp.append_right _).trans ?_
    rw [List.append_assoc, List.append_assoc]
    exact List.Perm.append_left _ List.perm_append_comm
   have hlen : (esL (La ++ f' :: Lc)).length = D1.es.length + 1 := by rw [hPm2.length_eq, List.length_append]; rfl
   have hle1 : D1.es.length < 1000000 := by have h1 := HPm.out.length_eq; have h2 := HLe.out; omega
   have HRR : Hid (∃ D', Turn w (wc.setCell ⟨d, 1, none⟩ (.int .i64 ((esL (La ++ f' :: Lc)).length : Nat))) B d x D D' ∧ (D'.g, D'.sh) = R ∧ D'.es.Perm (D.es ++ [(k, v)])) := by
    have hT := hD3.turn HeL.out hG (w'' := wc.setCell ⟨d, 1, none⟩ (.int .i64 ((esL (La ++ f' :: Lc)).length : Nat))) (by have := hD3.blk; rw [← hblk] at this; rw [Ak this]; rfl) Stay.set ?_ ?_ ?_ (by omega)
    ·refine ⟨_, HT3.out.trans hT, ?_, hPm2.trans (HPm.out.append_right _)⟩
     have e1 : f'.pt = f.pt := by unfold Lf.pt; rw [hG.l, hG.q]
     rw [← HR5.out]
     refine Prod.ext rfl ?_
     show shL _ = shL _
     unfold shL
     rw [HeL.out, List.map_append, List.map_append, List.map_cons, List.map_cons, e1]
    ·intro en he
     rcases List.mem_append.1 (hp.mem_iff.1 he) with he | he
     ·exact hD3.own f Hf.out en he
     ·rw [List.mem_singleton.1 he]
      show isIn f.pt (hsh x k) = true
      rw [HEh.out]
      exact Hi.out
    ·intro hl
     have h1 := hD3.one f Hf.out hl
     refine hone h1 ?_
     rcases Nat.lt_or_ge f.es.length 112 with h5 | h5
     ·exact h5
     ·exact absurd ⟨hl, h5⟩ HBn.out
    ·exact hful (hD3.ful f Hf.out)
   generalize hn : (esL (La ++ f' :: Lc)).length = n at hlen HRR
   generalize D1.es.length = m at hlen hc2 hle1
   have hnz : (m : Int) + 1 = (n : Nat) := by omega
   clear hG hp hone hful hD3 hblk hPm2 hn hcut hlen
   go_wp2
   go_ret
   exact ⟨rfl, HRR.out⟩
def dtag (t : TypeId) : Bool := t == 129 || t == 123 || t == 178 || t == 125 || t == 182 || t == 226
structure Mv (p : TypeId → Bool) (w w' : World) : Prop where
 os : w'.os = w.os
 tape : w'.tape = w.tape
 output : w'.output = w.output
 size : w.heap.size ≤ w'.heap.size
 block : ∀ (k : Nat) (cs : Array Value) (t : TypeId), w.heap[k]? = some (Obj.cells cs t (0, 0)) → p t = false → w'.heap[k]? = w.heap[k]?
theorem Mv.of_below {p : TypeId → Bool} {w w' : World} (h : Below w.heap.size w w') : Mv p w w' := ⟨h.os, h.tape, h.output, h.size, fun k _ _ hk _ => h.block k (Array.getElem?_eq_some_iff.1 hk).1⟩
theorem Mv.trans {p : TypeId → Bool} {w w1 w2 : World} (h : Mv p w w1) (k : Mv p w1 w2) : Mv p w w2 :=
 ⟨k.os.trans h.os, k.tape.trans h.tape, k.output.trans h.output, Nat.le_trans h.size k.size, fun i cs t hi ht => by
  have h1 := h.block i cs t hi ht
  rw [← h1]
  exact k.block i cs t (by rw [h1]; exact hi) ht⟩
def chg (p : TypeId → Bool) (w : World) : List Nat := (List.range w.heap.size).filter fun k =>
 match w.heap[k]? with
 | some (.cells _ t (0, 0)) => p t
 | _ => true
theorem chg_no {p : TypeId → Bool} {w : World} {k : Nat} {cs : Array Value} {t : TypeId} (h : w.heap[k]? = some (.cells cs t (0, 0))) (ht : p t = false) : k ∉ chg p w := by
 unfold chg
 rw [List.mem_filter, h]
 simp [ht]
theorem Mv.stay {p : TypeId → Bool} {w w' : World} (h : Mv p w w') : Stay w w' (chg p w) := by
 refine ⟨h.os, h.tape, h.output, h.size, fun k hk hn => ?_⟩
 unfold chg at hn
 rw [List.mem_filter, not_and] at hn
 have h1 := hn (List.mem_range.2 hk)
 cases hc : w.heap[k]? with
 | none => rw [Array.getElem?_eq_none_iff] at hc; omega
 | some o =>
  rw [hc] at h1
  rw [← hc]
  split at h1
  ·rename_i cs t e
   exact h.block k cs t (by rw [hc]; exact e) (by simpa using h1)
  ·simp at h1
theorem OwnR.mv {p : TypeId → Bool} {w w' : World} {B : Nat} {e : TypeId} {s : Nat} {a : Option Addr} {n cap : Nat} {cs : List Value} (h : OwnR w B e s a n cap cs) (hm : Mv p w w') (he : p e = false) : OwnR w' B e s a n cap cs :=
 h.kept fun k hk => by
  obtain ⟨-, -, cur, h1⟩ := h.lt hk
  exact hm.block k cur e h1 he
theorem Leaf.tags {w : World} {B x : Nat} {f : Lf} (h : Leaf w B x f) : ∀ k ∈ f.fp, ∃ cs t, w.heap[k]? = some (.cells cs t (0, 0)) ∧ dtag t = true := by
 intro k hk
 rcases List.mem_cons.1 hk with rfl | hk
 ·exact ⟨_, _, h.blk, rfl⟩
 rcases List.mem_cons.1 hk with rfl | hk
 ·obtain ⟨-, -, cur, h1⟩ := OwnR.lt h.row (k := f.tb) rfl
  exact ⟨_, _, h1, rfl⟩
 ·obtain ⟨t, ht, hk⟩ := List.mem_flatMap.1 hk
  have hT := h.tab t ht
  simp only [Tb.fp, List.mem_cons, List.not_mem_nil, or_false] at hk
  rcases hk with rfl | rfl
  ·exact ⟨_, _, hT.top.blk, rfl⟩
  ·obtain ⟨cs, h1, -⟩ := hT.row.ex
   exact ⟨_, _, h1, rfl⟩
theorem Dct.tags {w : World} {B d x : Nat} {D : Dg} (h : Dct w B d x D) : ∀ k ∈ D.fp d, ∃ cs t, w.heap[k]? = some (.cells cs t (0, 0)) ∧ dtag t = true := by
 intro k hk
 rcases List.mem_cons.1 hk with rfl | hk
 ·exact ⟨_, _, h.blk, rfl⟩
 rcases List.mem_cons.1 hk with rfl | hk
 ·obtain ⟨-, -, cur, h1⟩ := OwnR.lt h.row (k := D.pb) rfl
  exact ⟨_, _, h1, rfl⟩
 ·obtain ⟨f, hf, hk⟩ := List.mem_flatMap.1 hk
  exact (h.leaf f hf).tags k hk
theorem Dct.mv {w w' : World} {B d x : Nat} {D : Dg} (h : Dct w B d x D) {p : TypeId → Bool} (hm : Mv p w w') (hp : ∀ t, dtag t = true → p t = false) : Dct w' B d x D :=
 h.stay hm.stay (fun k hk => by
  obtain ⟨cs, t, h1, h2⟩ := h.tags k hk
  exact chg_no h1 (hp t h2))
theorem Turn.mv {w w' : World} {B d x : Nat} {D D' : Dg} (h : Turn w w' B d x D D') (hD : Dct w B d x D) : Mv dtag w w' :=
 ⟨h.stay.os, h.stay.tape, h.stay.output, h.stay.size, fun k cs t hk ht => h.stay.block k (Array.getElem?_eq_some_iff.1 hk).1 (fun hm => by
  obtain ⟨cs', t', h1, h2⟩ := hD.tags k hm
  rw [h1] at hk
  simp at hk
  rw [hk.2] at h2
  rw [h2] at ht
  cases ht)⟩
theorem Dct.nodk {w : World} {B d x : Nat} {D : Dg} (h : Dct w B d x D) : (Ae D.es).Nodup := by
 have key : ∀ (M : List Lf), (∀ u ∈ M, u ∈ D.L) → M.Nodup → (Ae (esL M)).Nodup := by
  intro M
  induction M with
  | nil => intro _ _; exact List.nodup_nil
  | cons f M ih =>
   intro hM hn
   rw [List.nodup_cons] at hn
   rw [Ax, Aj, List.nodup_append]
   refine ⟨(h.leaf f (hM f (by simp))).key, ih (fun u hu => hM u (List.mem_cons_of_mem _ hu)) hn.2, ?_⟩
   intro a ha b hb e
   subst e
   obtain ⟨e1, h1, rfl⟩ := List.mem_map.1 ha
   obtain ⟨e2, h2, h3⟩ := List.mem_map.1 hb
   obtain ⟨u, hu, h4⟩ := List.mem_flatMap.1 h2
   have h5 := h.own f (hM f (by simp)) e1 h1
   have h6 := h.own u (hM u (List.mem_cons_of_mem _ hu)) e2 h4
   rw [h3] at h6
   exact hn.1 ((h.same (hM f (by simp)) (hM u (List.mem_cons_of_mem _ hu)) h5 h6) ▸ hu)
 refine key D.L (fun u hu => hu) ?_
 exact h.ord_perm.nodup_iff.1 (by
  have h1 := h.ord_perm
  unfold ordU List.Nodup
  rw [List.pairwise_filterMap]
  refine List.Pairwise.imp ?_ List.nodup_range
  intro i j hij u hu v hv e
  subst e
  have k1 : u.q = i := by simpa using List.find?_some hu
  have k2 : u.q = j := by simpa using List.find?_some hv
  exact hij (k1.symm.trans k2))
def hasK (es : List En) (k : BA) : Bool := es.any fun e => decide (e.1 = k)
theorem hasK_iff {es : List En} {k : BA} : hasK es k = true ↔ k ∈ Ae es := by
 unfold hasK
 rw [List.any_eq_true]
 constructor
 ·rintro ⟨e, he, h⟩
  exact List.mem_map.2 ⟨e, he, of_decide_eq_true h⟩
 ·intro h
  obtain ⟨e, he, h1⟩ := List.mem_map.1 h
  exact ⟨e, he, decide_eq_true h1⟩
theorem hasK_no {es : List En} {k : BA} (h : k ∉ Ae es) : hasK es k = false := by
 cases e : hasK es k with
 | false => rfl
 | true => exact absurd (hasK_iff.1 e) h
def putE (es : List En) (k : BA) (v : (Option Addr)) : List En := if hasK es k = true then es.map (fun e => if e.1 = k then (k, v) else e) else es ++ [(k, v)]
def delE (es : List En) (k : BA) : List En := es.filter fun e => decide (e.1 ≠ k)
def getE (es : List En) (k : BA) : (Option Addr) := ((es.find? fun e => decide (e.1 = k)).map (·.2)).getD none
theorem delE_perm {es fs : List En} (h : es.Perm fs) (k : BA) : (delE es k).Perm (delE fs k) := h.filter _
theorem not_of_nodup {a c : List En} {k : BA} {u : (Option Addr)} (hn : (Ae (a ++ (k, u) :: c)).Nodup) : k ∉ Ae a ∧ k ∉ Ae c := by
 rw [Aj] at hn
 replace hn : (Ae a ++ k :: Ae c).Nodup := hn
 rw [List.nodup_append, List.nodup_cons] at hn
 exact ⟨fun h => hn.2.2 k h k (by simp) rfl, hn.2.1.1⟩
theorem map_same {a : List En} {k : BA} {v : (Option Addr)} (h : k ∉ Ae a) : a.map (fun e => if e.1 = k then (k, v) else e) = a := by
 conv => rhs; rw [← List.map_id a]
 refine List.map_congr_left fun e he => ?_
 rw [if_neg (fun e2 => h (List.mem_map.2 ⟨e, he, e2⟩))]
 rfl
theorem filter_same {a : List En} {k : BA} (h : k ∉ Ae a) : delE a k = a := by
 unfold delE
 rw [List.filter_eq_self]
 intro e he
 exact decide_eq_true (fun e2 => h (List.mem_map.2 ⟨e, he, e2⟩))
theorem putE_old {a c : List En} {k : BA} {u v : (Option Addr)} (hn : (Ae (a ++ (k, u) :: c)).Nodup) : putE (a ++ (k, u) :: c) k v = a ++ (k, v) :: c := by
 obtain ⟨h1, h2⟩ := not_of_nodup hn
 unfold putE
 rw [if_pos (hasK_iff.2 (by simp [Ae])), List.map_append, List.map_cons, map_same h1, map_same h2, if_pos rfl]
theorem delE_old {a c : List En} {k : BA} {u : (Option Addr)} (hn : (Ae (a ++ (k, u) :: c)).Nodup) : delE (a ++ (k, u) :: c) k = a ++ c := by
 obtain ⟨h1, h2⟩ := not_of_nodup hn
 have e1 := filter_same h1
 have e2 := filter_same h2
 unfold delE at e1 e2 ⊢
 rw [List.filter_append, List.filter_cons_of_neg (by simp), e1, e2]
theorem key_split {es : List En} {k : BA} (h : k ∈ Ae es) : ∃ a u c, es = a ++ (k, u) :: c := by
 obtain ⟨⟨k', u⟩, he, rfl⟩ := List.mem_map.1 h
 obtain ⟨a, c, e⟩ := List.append_of_mem he
 exact ⟨a, u, c, e⟩
theorem getE_mem {es : List En} (hn : (Ae es).Nodup) {k : BA} {v : (Option Addr)} (h : (k, v) ∈ es) : getE es k = v := by
 unfold getE
 have hs : (es.find? fun e => decide (e.1 = k)).isSome = true := by rw [List.find?_isSome]; exact ⟨_, h, by simp⟩
 obtain ⟨e, he⟩ := Option.isSome_iff_exists.1 hs
 have h1 := List.mem_of_find?_eq_some he
 have h2 : e.1 = k := by simpa using List.find?_some he
 rw [he]
 obtain ⟨k', u⟩ := e
 simp only at h2
 subst h2
 exact val_one hn h1 h
theorem getE_none {es : List En} {k : BA} (h : k ∉ Ae es) : getE es k = none := by
 unfold getE
 rw [List.find?_eq_none.2]
 ·rfl
 ·intro e he hd
  exact h (List.mem_map.2 ⟨e, he, by simpa using hd⟩)
theorem PutD (B d x : Nat) (D : Dg) (k : BA) (v : (Option Addr)) (w : World) (hD : Dct w B d x D) (hks : k.size ≤ maxLen) (hle : D.es.length < 112) :
  Calls Tryz.prog 85 #[ptr d, .string k, .pointer v] w fun e w' => e = .returned (.int .i64 0) ∧ ∃ D', Turn w w' B d x D D' ∧ D'.es.Perm (putE D.es k v) := by
 by_cases h : k ∈ Ae D.es
 ·obtain ⟨a, u, c, e⟩ := key_split h
  refine (PutD_old B d x D k u v w hD (by rw [e]; simp)).mono ?_
  rintro en w' ⟨rfl, D', hT, -, -, A, C, e1, e2⟩
  refine ⟨rfl, D', hT, ?_⟩
  have hn := hD.nodk
  rw [e1] at hn ⊢
  rw [putE_old hn, e2]
 ·refine (PutD_new B d x D k v w hD hks h hle).mono ?_
  rintro en w' ⟨rfl, D', hT, -, hp⟩
  refine ⟨rfl, D', hT, ?_⟩
  unfold putE
  rw [if_neg (by rw [hasK_no h]; decide)]
  exact hp
theorem DelD (B d x : Nat) (D : Dg) (k : BA) (w : World) (hD : Dct w B d x D) (hks : k.size ≤ maxLen) :
  Calls Tryz.prog 94 #[ptr d, .string k] w fun e w' => e = .returned (.bool (hasK D.es k)) ∧ ∃ D', Turn w w' B d x D D' ∧ D'.es.Perm (delE D.es k) := by
 by_cases h : k ∈ Ae D.es
 ·rw [hasK_iff.2 h]
  refine (DeleteD_yes B d x D k w hD h).mono ?_
  rintro en w' ⟨rfl, D', hT, -, -, u, hp⟩
  refine ⟨rfl, D', hT, ?_⟩
  have h1 := delE_perm hp k
  have hn : (Ae ([] ++ (k, u) :: D'.es)).Nodup := (hp.map (·.1)).nodup_iff.1 hD.nodk
  have h2 := delE_old hn
  rw [List.nil_append] at h2
  rw [h2] at h1
  exact h1.symm
 ·rw [hasK_no h]
  refine (DeleteD_no B d x D k w hD hks h).mono ?_
  rintro en w' ⟨rfl, hb⟩
  exact ⟨rfl, D, Turn.refl hD hb, by rw [filter_same h]⟩
theorem GetD (B d x : Nat) (D : Dg) (k : BA) (w : World) (hD : Dct w B d x D) (hks : k.size ≤ maxLen) :
  Calls Tryz.prog 83 #[ptr d, .string k] w fun e w' => e = .returned (.tuple #[.pointer (getE D.es k), .bool (hasK D.es k)]) ∧ Below w.heap.size w w' := by
 by_cases h : k ∈ Ae D.es
 ·obtain ⟨a, u, c, e⟩ := key_split h
  have hm : (k, u) ∈ D.es := by rw [e]; simp
  rw [hasK_iff.2 h, getE_mem hD.nodk hm]
  exact Get_dsome B d x D k u w hD hks hm
 ·rw [hasK_no h, getE_none h]
  exact Get_dnone B d x D k w hD hks h
end Go.Proofs.YtmjeljldmmkcpaaGreat.Dk
namespace Go.Proofs.YtmjeljldmmkcpaaGreat.Zs.Dk
open Go.Proofs.YtmjeljldmmkcpaaGreat.Dk
open Go.RowKit Go.PlainAid
end Go.Proofs.YtmjeljldmmkcpaaGreat.Zs.Dk
