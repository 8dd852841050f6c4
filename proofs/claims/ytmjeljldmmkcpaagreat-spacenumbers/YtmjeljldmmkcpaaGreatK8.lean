/- Texts that the others stand on. -/
import Derived.Test.YtmjeljldmmkcpaaGreatK7
set_option maxRecDepth 100000
set_option maxHeartbeats 4000000
namespace Go.Proofs.YtmjeljldmmkcpaaGreat.Dk
open Go.RowKit Go.PlainAid
theorem remove_no (B x : Nat) (f : Lf) (k : BA) (w : World) (hL : Leaf w B x f) (hks : k.size ≤ maxLen) (hk : k ∉ Ae f.es) :
  Calls Tryz.prog 143 #[ptr f.a, .string k] w fun e w' => e = .returned (.bool false) ∧ Below w.heap.size w w' := by
 have HL : Hid (Leaf w B x f) := hL
 have hc := hL.tabs
 have hmx := hL.max
 have HK : Hid (k ∉ Ae f.es) := hk
 have HKS : Hid (k.size ≤ maxLen) := hks
 generalize hm : f.ts.length = m at hc hmx
 have HM : Hid (f.ts.length = m) := hm
 clear hL hm hk hks
 go_enter Tryz.func143, Tryz.ntmps143
 go_wp2
 go_loopg [5, 6, 12] m (fun q jv tv iv wr => ∃ i : Nat, i + q = m ∧ iv = .int .i64 i ∧ Hid (Below w.heap.size w wr))
 case atStart => exact ⟨0, by omega, rfl, Below.refl _ _⟩
 case round =>
  obtain ⟨i, hi, rfl, HB⟩ := hrel
  by_cases h8 : (i : Int) < m
  ·obtain ⟨t, ht, htm⟩ := A6 (l := f.ts) (i := i) (by have := HM.out; omega)
   have hcc := (HL.out.keep HB.out).at ht
   have hG := Delete_no _ _ _ _ _ _ k _ ((HL.out.keep HB.out).tab t htm) HKS.out (not_in_tab HK.out htm)
   clear ht htm
   go_wp2_with fail
   refine hG.mono ?_
   rintro e w1 ⟨rfl, hb1⟩
   have HB1 := Ad HB hb1
   clear hb1 hG
   go_wp2
   go_roundg (gk - 1)
   case measure => omega
   case rel => exact ⟨i + 1, by omega, by go_num, HB1⟩
  ·go_wp2
   go_ret
   exact ⟨rfl, HB.out⟩
theorem Leaf.drop {w w3 : World} {B x : Nat} {f : Lf} {pre post : List Tb} {t : Tb} {n' c' : Nat} (h : Leaf w B x f) (e : f.ts = pre ++ t :: post) (hg : w.grownBy w3 (some f.tb)) (hO : OwnP w3 B 125 (some ⟨f.tb, 0, none⟩) n' c' ((pre ++ post).map (·.p))) (hpos : 0 < (pre ++ post).length) :
  Leaf (w3.setCell ⟨f.a, 1, none⟩ (.slice (some ⟨f.tb, 0, none⟩) n' c')) B x { f with cap := c', ts := pre ++ post } ∧ (∀ j ∈ ({ f with cap := c', ts := pre ++ post } : Lf).fp, j ∈ f.fp) := by
 have hlen : (pre ++ post).length = n' := by have := OwnP.len hO; rw [List.length_map] at this; exact this
 have hsub : ((tsFp (pre ++ post)).Sublist (tsFp f.ts)) := by
  rw [e, Ci, Ci, tsFp_cons]
  exact List.Sublist.append_left ((List.sublist_cons_self _ _).trans (List.sublist_cons_self _ _)) _
 have hes : (tsEs (pre ++ post)).Sublist f.es := by
  unfold Lf.es
  rw [e, An, An, Bh]
  exact List.Sublist.append_left (List.sublist_append_right _ _) _
 have hn := h.nod
 unfold Lf.fp at hn
 rw [List.nodup_cons, List.nodup_cons] at hn
 obtain ⟨n1, n2, n3⟩ := hn
 rw [List.mem_cons, not_or] at n1
 have hS : Stay w w3 [f.tb] := Stay.grown hg (fun g e => by cases e; simp)
 have hS2 : Stay w (w3.setCell ⟨f.a, 1, none⟩ (.slice (some ⟨f.tb, 0, none⟩) n' c')) [f.tb, f.a] :=
  (hS.mono (by simp)).trans Stay.set (fun i hi => .inl (by simp at hi; simp [hi]))
 have hblk3 : w3.heap[f.a]? = some (.cells #[.int .i64 (f.l : Nat), .slice (some ⟨f.tb, 0, none⟩) f.ts.length f.cap] 178 (0, 0)) := by
  rw [hS.block f.a h.lt (by simpa using n1.1)]; exact h.blk
 refine ⟨⟨?_, ?_, ?_, h.low, ?_, ?_, hpos⟩, ?_⟩
 ·show (w3.setCell ⟨f.a, 1, none⟩ _).heap[f.a]? = some (.cells #[.int .i64 (f.l : Nat), .slice (some ⟨f.tb, 0, none⟩) (pre ++ post).length c'] 178 (0, 0))
  rw [Ak hblk3, hlen]
  rfl
 ·show OwnP _ B 125 (some ⟨f.tb, 0, none⟩) (pre ++ post).length c' ((pre ++ post).map (·.p))
  rw [hlen]
  exact OwnR.stay hO (Stay.set (q := f.a)) (fun k hk => by cases hk; simpa using fun e => n1.1 e.symm)
 ·intro u hu
  have hu' : u ∈ f.ts := by rw [e]; rcases List.mem_append.1 hu with h | h <;> simp [h]
  have hm := mem_tsFp hu'
  refine (h.tab u hu').stay hS2 ?_ ?_
  ·simp only [List.mem_cons, List.not_mem_nil, or_false, not_or]
   exact ⟨fun e => n2 (e ▸ hm.1), fun e => n1.2 (e ▸ hm.1)⟩
  ·simp only [List.mem_cons, List.not_mem_nil, or_false, not_or]
   exact ⟨fun e => n2 (e ▸ hm.2), fun e => n1.2 (e ▸ hm.2)⟩
 ·exact ((hsub.cons_cons f.tb).cons_cons f.a).nodup h.nod
 ·exact (hes.map (·.1)).nodup h.key
 ·intro j hj
  exact ((hsub.cons_cons f.tb).cons_cons f.a).mem hj
def Removed (w w' : World) (B x : Nat) (f : Lf) (k : BA) : Prop :=
 ∃ f', Grew w w' B x f f' ∧ (∃ u, f.es.Perm ((k, u) :: f'.es)) ∧ (f.ts.length = 1 → f'.ts.length = 1) ∧ (Ful f → Ful f')
theorem remove_yes (B x : Nat) (f : Lf) (k : BA) (w : World) (hL : Leaf w B x f) (hks : k.size ≤ maxLen) (hk : k ∈ Ae f.es) :
  Calls Tryz.prog 143 #[ptr f.a, .string k] w fun e w' => e = .returned (.bool true) ∧ Removed w w' B x f k := by
 have HL : Hid (Leaf w B x f) := hL
 have hc := hL.tabs
 have hmx := hL.max
 have HK : Hid (k ∈ Ae (tsEs f.ts)) := hk
 have HKS : Hid (k.size ≤ maxLen) := hks
 generalize hm : f.ts.length = m at hc hmx
 have HM : Hid (f.ts.length = m) := hm
 clear hL hm hk hks
 go_enter Tryz.func143, Tryz.ntmps143
 go_wp2
 go_loopg [5, 6, 12] m (fun q jv tv iv wr => ∃ i : Nat, i + q = m ∧ iv = .int .i64 i ∧ Hid (k ∉ Ae (tsEs (f.ts.take i))) ∧ Hid (Below w.heap.size w wr))
 case atStart => exact ⟨0, by omega, rfl, (by simp [tsEs] : k ∉ _), Below.refl _ _⟩
 case round =>
  obtain ⟨i, hi, rfl, HNo, HB⟩ := hrel
  by_cases h8 : (i : Int) < m
  ·obtain ⟨t, ht, htm⟩ := A6 (l := f.ts) (i := i) (by have := HM.out; omega)
   have hcc := (HL.out.keep HB.out).at ht
   have HTab : Hid (Tab wr B t.p t.b x t.G t.z) := (HL.out.keep HB.out).tab t htm
   by_cases hin : k ∈ (ents t.z).map (·.1)
   ·have hD := Delete_yes _ _ _ _ _ _ k _ HTab.out HKS.out hin
    have HG : Hid (f.ts = f.ts.take i ++ t :: f.ts.drop (i + 1)) := get_parts ht
    clear ht htm hin
    go_wp2_with fail
    refine hD.mono ?_
    rintro e w1 ⟨rfl, hm1, z1, hT1, u, hp1⟩
    have HPm : Hid (f.es.Perm ((k, u) :: tsEs (f.ts.take i ++ ⟨t.p, t.b, t.G, z1⟩ :: f.ts.drop (i + 1)))) := by
     show f.es.Perm _
     have := mid_perm (pre := f.ts.take i) (post := f.ts.drop (i + 1)) (t := ⟨t.p, t.b, t.G, z1⟩) (t' := t) (e := [(k, u)]) (hp1.trans (List.perm_append_singleton _ _).symm)
     rw [← HG.out] at this
     exact this.trans (List.perm_append_singleton _ _)
    have hkn : (Ae (tsEs (f.ts.take i ++ ⟨t.p, t.b, t.G, z1⟩ :: f.ts.drop (i + 1)))).Nodup := (List.nodup_cons.1 ((HPm.out.map (·.1)).nodup_iff.1 HL.out.key)).2
    have HT : Hid (Leaf w1 B x { f with ts := f.ts.take i ++ ⟨t.p, t.b, t.G, z1⟩ :: f.ts.drop (i + 1) } ∧ (∀ j ∈ ({ f with ts := f.ts.take i ++ ⟨t.p, t.b, t.G, z1⟩ :: f.ts.drop (i + 1) } : Lf).fp, j ∈ f.fp ∨ wr.heap.size ≤ j) ∧ Stay wr w1 f.fp) := (HL.out.keep HB.out).turn HG.out (Stay.of_moves hm1) hT1 (.inl rfl) hkn
    have hLen := Len_any _ _ _ _ _ _ _ hT1
    have HLn : Hid ((f.ts.take i ++ (⟨t.p, t.b, t.G, z1⟩ : Tb) :: f.ts.drop (i + 1)).length = m) := by
     have := congrArg List.length HG.out
     show _ = _
     rw [← HM.out, this]
     simp
    have HR : Hid ((m = 1 ∨ 0 < (ents z1).length) → Removed w w1 B x f k) := fun hor => ⟨_, (⟨HT.out.1, HT.out.2.2, HT.out.2.1, rfl, rfl, rfl⟩ : Grew wr w1 B x f _).first HB.out, ⟨u, HPm.out⟩, fun h1 => by
     show (f.ts.take i ++ (⟨t.p, t.b, t.G, z1⟩ : Tb) :: f.ts.drop (i + 1)).length = 1
     rw [HLn.out, ← HM.out]; exact h1, fun h1 => by
      rcases hor with hor | hor
      ·exact .inl (by rw [HLn.out]; exact hor)
      ·rcases h1 with h1 | h1
       ·exact .inl (by show (f.ts.take i ++ (⟨t.p, t.b, t.G, z1⟩ : Tb) :: f.ts.drop (i + 1)).length = 1; rw [HLn.out, ← HM.out]; exact h1)
       ·refine .inr fun v hv => ?_
        rcases List.mem_append.1 hv with hv | hv
        ·exact h1 v (List.mem_of_mem_take hv)
        ·rcases List.mem_cons.1 hv with rfl | hv
         ·exact hor
         ·exact h1 v (List.mem_of_mem_drop hv)⟩
    have hc1 := HT.out.1.tabs
    simp only [] at hc1
    rw [HLn.out] at hc1
    clear hm1 hT1 hp1 hkn hD hc hcc
    generalize hd : (ents z1).length = d at hLen
    have HD : Hid ((ents z1).length = d) := hd
    clear hd
    by_cases hd0 : d = 0
    ·subst hd0
     replace hLen : Calls Tryz.prog 166 #[ptr t.p] w1 fun e w' => e = .returned (.int .i64 0) ∧ w' = w1 := hLen
     by_cases hm1 : (1 : Int) < m
     ·have hrow := Delete_row B f.tb m f.cap ((f.ts.take i ++ (⟨t.p, t.b, t.G, z1⟩ : Tb) :: f.ts.drop (i + 1)).map (·.p)) i w1 (by have := HT.out.1.row; simp only [] at this; rw [HLn.out] at this; exact this) (by omega)
      go_wp2_with fail
      refine hLen.mono ?_
      rintro e w1 ⟨rfl, rfl⟩
      go_wp2_with fail
      refine hrow.mono ?_
      rintro e w2 ⟨n', c', rfl, hO2, hg2⟩
      have HF : Hid (some f.a ≠ some f.tb) := by
       have h := HL.out.nod
       unfold Lf.fp at h
       rw [List.nodup_cons] at h
       intro e
       injection e with e
       exact h.1 (by simp [e])
      have hbl : w2.heap[f.a]? = w1.heap[f.a]? := hg2.block f.a HT.out.1.lt HF.out
      have hc2 : w2.cell? ⟨f.a, 1, none⟩ = some (.slice (some ⟨f.tb, 0, none⟩) m f.cap) := by rw [World.cell?_of_block hbl]; exact hc1
      have hf2 : w2.frozen? ⟨f.a, 1, none⟩ = false := by have := HT.out.1.blk; rw [← hbl] at this; simp [World.frozen?, this]
      have HO2 : Hid (OwnP w2 B 125 (some ⟨f.tb, 0, none⟩) n' c' ((f.ts.take i ++ f.ts.drop (i + 1)).map (·.p))) := by
       show OwnP _ _ _ _ _ _ _
       have hil : (f.ts.take i).length = i := by rw [List.length_take, HM.out]; omega
       have e1 : ((f.ts.take i ++ (⟨t.p, t.b, t.G, z1⟩ : Tb) :: f.ts.drop (i + 1)).map (·.p)).take i = (f.ts.take i).map (·.p) := by
        rw [← List.map_take, List.take_append_of_le_length (by omega), List.take_of_length_le (by omega)]
       have e2 : ((f.ts.take i ++ (⟨t.p, t.b, t.G, z1⟩ : Tb) :: f.ts.drop (i + 1)).map (·.p)).drop (i + 1) = (f.ts.drop (i + 1)).map (·.p) := by
        rw [← List.map_drop, List.drop_append, List.drop_of_length_le (by omega), hil, show i + 1 - i = 1 by omega]
        rfl
       rw [e1, e2] at hO2
       rw [List.map_append]
       exact hO2
      have HG2 : Hid (w1.grownBy w2 (some f.tb)) := hg2
      clear hO2 hg2 hbl hrow hLen
      go_wp2
      go_ret
      refine ⟨rfl, ?_⟩
      have hpos : 0 < (f.ts.take i ++ f.ts.drop (i + 1)).length := by
       rw [List.length_append, List.length_take, List.length_drop, HM.out]
       omega
      obtain ⟨k1, k2⟩ := HT.out.1.drop (pre := f.ts.take i) (post := f.ts.drop (i + 1)) rfl HG2.out HO2.out hpos
      refine ⟨_, (⟨k1, ?_, fun j hj => HT.out.2.1 j (k2 j hj), rfl, rfl, rfl⟩ : Grew wr _ B x f _).first HB.out, ⟨u, ?_⟩, ?_, ?_⟩
      ·refine HT.out.2.2.trans (M' := [f.tb, f.a]) ((Stay.grown HG2.out (M := [f.tb, f.a]) (fun g e => by simp at e; simp [e])).trans Stay.set (fun i hi => .inl (by simp at hi; simp [hi]))) (fun i hi => .inl (by simp at hi; rcases hi with rfl | rfl <;> simp [Lf.fp]))
      ·refine HPm.out.trans (List.Perm.cons _ ?_)
       show (tsEs _).Perm (tsEs _)
       have hz : (⟨t.p, t.b, t.G, z1⟩ : Tb).es = [] := List.length_eq_zero_iff.1 HD.out
       rw [An, An, Bh, hz, List.nil_append]
      ·intro h1
       rw [HM.out] at h1
       omega
      ·intro h1
       rcases h1 with h1 | h1
       ·rw [HM.out] at h1
        omega
       ·refine .inr fun v hv => ?_
        rcases List.mem_append.1 hv with hv | hv
        ·exact h1 v (List.mem_of_mem_take hv)
        ·exact h1 v (List.mem_of_mem_drop hv)
     ·have hm2 : decide ((1 : Int) < m) = false := decide_eq_false hm1
      have HR1 : Hid (Removed w w1 B x f k) := HR.out (.inl (by have := HL.out.pos; have := HM.out; omega))
      clear HR
      go_wp2_with fail
      refine hLen.mono ?_
      rintro e w1 ⟨rfl, rfl⟩
      go_wp2
      go_ret
      exact ⟨rfl, HR1.out⟩
    ·have HR1 : Hid (Removed w w1 B x f k) := HR.out (.inr (by have := HD.out; omega))
     clear HR
     have hdz : ((d : Int) == 0) = false := by simp; omega
     go_wp2_with fail
     refine hLen.mono ?_
     rintro e w1 ⟨rfl, rfl⟩
     go_wp2
     go_ret
     exact ⟨rfl, HR1.out⟩
   ·have hG := Delete_no _ _ _ _ _ _ k _ HTab.out HKS.out hin
    have HNo1 : Hid (k ∉ Ae (tsEs (f.ts.take (i + 1)))) := by
     show k ∉ _
     rw [B3 ht, An, Aj, Bv, List.mem_append]
     exact fun h => h.elim HNo.out hin
    clear ht htm hin
    go_wp2_with fail
    refine hG.mono ?_
    rintro e w1 ⟨rfl, hb1⟩
    have HB1 := Ad HB hb1
    clear hb1 hG
    go_wp2
    go_roundg (gk - 1)
    case measure => omega
    case rel => exact ⟨i + 1, by omega, by go_num, HNo1, HB1⟩
  ·exact absurd HK.out (by have := HNo.out; rw [List.take_of_length_le (by have := HM.out; omega)] at this; exact this)
structure Dg where
 g : Nat
 pb : Nat
 cap : Nat
 pl : List Nat
 L : List Lf
def shL (L : List Lf) : List Pt := L.map Lf.pt
def esL (L : List Lf) : List En := L.flatMap Lf.es
def fpL (L : List Lf) : List Nat := L.flatMap Lf.fp
def Dg.sh (D : Dg) : List Pt := shL D.L
def Dg.es (D : Dg) : List En := esL D.L
structure Dct (w : World) (B d x : Nat) (D : Dg) : Prop where
 blk : w.heap[d]? = some (.cells #[.int .u64 (x : Nat), .int .i64 (D.es.length : Nat), .slice (some ⟨D.pb, 0, none⟩) (2 ^ D.g) D.cap] 129 (0, 0))
 row : OwnP w B 123 (some ⟨D.pb, 0, none⟩) (2 ^ D.g) D.cap D.pl
 leaf : ∀ f ∈ D.L, Leaf w B x f
 shp : Shp D.g D.sh
 dir : ∀ f ∈ D.L, ∀ i, i < 2 ^ D.g → isIn f.pt i = true → D.pl[i]? = some f.a
 own : ∀ f ∈ D.L, ∀ e ∈ f.es, isIn f.pt (hsh x e.1) = true
 one : ∀ f ∈ D.L, f.l < 16 → f.ts.length = 1
 ful : ∀ f ∈ D.L, Ful f
 nod : (d :: D.pb :: fpL D.L).Nodup
 low : B ≤ d
 seed : x < 18446744073709551616
 le : D.es.length ≤ 1000000
theorem Aq (a b : List Lf) : esL (a ++ b) = esL a ++ esL b := List.flatMap_append ..
theorem Ax (f : Lf) (b : List Lf) : esL (f :: b) = f.es ++ esL b := List.flatMap_cons ..
theorem esL_one (f : Lf) : esL [f] = f.es := by rw [Ax]; exact List.append_nil _
theorem Bg (a b : List Lf) : fpL (a ++ b) = fpL a ++ fpL b := List.flatMap_append ..
theorem Bw (f : Lf) (b : List Lf) : fpL (f :: b) = f.fp ++ fpL b := List.flatMap_cons ..
theorem B5 {L : List Lf} {f : Lf} (h : f ∈ L) {j : Nat} (hj : j ∈ f.fp) : j ∈ fpL L := List.mem_flatMap.2 ⟨f, h, hj⟩
theorem mem_esL {L : List Lf} {f : Lf} (h : f ∈ L) {e : En} (he : e ∈ f.es) : e ∈ esL L := List.mem_flatMap.2 ⟨f, h, he⟩
theorem Dct.lt {w : World} {B d x : Nat} {D : Dg} (h : Dct w B d x D) : d < w.heap.size := (Array.getElem?_eq_some_iff.1 h.blk).1
theorem Dct.fplt {w : World} {B d x : Nat} {D : Dg} (h : Dct w B d x D) : ∀ k ∈ d :: D.pb :: fpL D.L, B ≤ k ∧ k < w.heap.size := by
 intro k hk
 rcases List.mem_cons.1 hk with rfl | hk
 ·exact ⟨h.low, h.lt⟩
 rcases List.mem_cons.1 hk with rfl | hk
 ·have := OwnR.lt h.row (k := D.pb) rfl
  exact ⟨this.1, this.2.1⟩
 ·obtain ⟨f, hf, hk⟩ := List.mem_flatMap.1 hk
  exact (h.leaf f hf).fplt k hk
theorem Dct.stay {w w' : World} {B d x : Nat} {D : Dg} {M : List Nat} (h : Dct w B d x D) (hs : Stay w w' M) (hd : ∀ k ∈ d :: D.pb :: fpL D.L, k ∉ M) : Dct w' B d x D :=
 ⟨by rw [hs.block d h.lt (hd _ (by simp))]; exact h.blk, OwnR.stay h.row hs (fun k hk => hd k (by cases hk; simp)), fun f hf => (h.leaf f hf).stay hs (fun k hk => hd k (List.mem_cons_of_mem _ (List.mem_cons_of_mem _ (B5 hf hk)))), h.shp, h.dir, h.own, h.one, h.ful, h.nod, h.low, h.seed, h.le⟩
theorem Dct.keep {w w' : World} {B d x : Nat} {D : Dg} (h : Dct w B d x D) (hb : Below w.heap.size w w') : Dct w' B d x D := h.stay (Stay.of_below hb []) (fun _ _ => by simp)
theorem Dct.cseed {w : World} {B d x : Nat} {D : Dg} (h : Dct w B d x D) : w.cell? ⟨d, 0, none⟩ = some (.int .u64 (x : Nat)) := by simp [World.cell?, h.blk]
theorem Dct.ccnt {w : World} {B d x : Nat} {D : Dg} (h : Dct w B d x D) : w.cell? ⟨d, 1, none⟩ = some (.int .i64 (D.es.length : Nat)) := by simp [World.cell?, h.blk]
theorem Dct.cpl {w : World} {B d x : Nat} {D : Dg} (h : Dct w B d x D) : w.cell? ⟨d, 2, none⟩ = some (.slice (some ⟨D.pb, 0, none⟩) (2 ^ D.g) D.cap) := by simp [World.cell?, h.blk]
theorem Dct.pow {w : World} {B d x : Nat} {D : Dg} (h : Dct w B d x D) : 2 ^ D.g ≤ 65536 := pow_le_16 h.shp.le
theorem Dct.les {w : World} {B d x : Nat} {D : Dg} (h : Dct w B d x D) {f : Lf} (hf : f ∈ D.L) : f.es.length ≤ 1000000 := by
 obtain ⟨a, c, e⟩ := List.append_of_mem hf
 have h1 := h.le
 unfold Dg.es at h1
 rw [e, Aq, Ax, List.length_append, List.length_append] at h1
 omega
theorem Dct.lef {w : World} {B d x : Nat} {D : Dg} (h : Dct w B d x D) {f : Lf} (hf : f ∈ D.L) : f.l ≤ D.g ∧ f.l ≤ 16 ∧ f.q < 2 ^ f.l := by
 have h1 := h.shp.lt f.pt (List.mem_map_of_mem hf)
 have h2 := h.shp.le
 simp only [Lf.pt] at h1
 omega
theorem Dct.parts {w : World} {B d x : Nat} {D : Dg} (h : Dct w B d x D) (hh : Nat) : ∃ a f c, D.L = a ++ f :: c ∧ isIn f.pt hh = true ∧ (∀ u ∈ a, isIn u.pt hh = false) ∧ (∀ u ∈ c, isIn u.pt hh = false) := by
 obtain ⟨sa, s, sc, e, h1, h2, h3⟩ := h.shp.parts hh
 unfold Dg.sh shL at e
 obtain ⟨a, l2, e1, rfl, e3⟩ := List.map_eq_append_iff.1 e
 obtain ⟨f, c, rfl, rfl, rfl⟩ := List.map_eq_cons_iff.1 e3
 exact ⟨a, f, c, e1, h1, fun u hu => h2 _ (List.mem_map_of_mem hu), fun u hu => h3 _ (List.mem_map_of_mem hu)⟩
theorem Dct.place {w : World} {B d x : Nat} {D : Dg} (h : Dct w B d x D) {f : Lf} (hf : f ∈ D.L) {hh : Nat} (hi : isIn f.pt hh = true) : D.pl[hh % 2 ^ D.g]? = some f.a ∧ hh % 2 ^ D.g < 2 ^ D.g := by
 have hlt : hh % 2 ^ D.g < 2 ^ D.g := Nat.mod_lt _ (pow_pos _)
 refine ⟨h.dir f hf _ hlt ?_, hlt⟩
 rw [isIn_low (h.lef hf).1]
 exact hi
theorem Dct.mem {w : World} {B d x : Nat} {D : Dg} (h : Dct w B d x D) {a c : List Lf} {f : Lf} {k : BA} (e : D.L = a ++ f :: c) (h2 : ∀ u ∈ a, isIn u.pt (hsh x k) = false) (h3 : ∀ u ∈ c, isIn u.pt (hsh x k) = false) {v : (Option Addr)} : (k, v) ∈ D.es ↔ (k, v) ∈ f.es := by
 constructor
 ·intro hm
  obtain ⟨u, hu, hm⟩ := List.mem_flatMap.1 hm
  have ho := h.own u hu _ hm
  rw [e] at hu
  rcases List.mem_append.1 hu with hu | hu
  ·rw [h2 u hu] at ho; cases ho
  ·rcases List.mem_cons.1 hu with rfl | hu
   ·exact hm
   ·rw [h3 u hu] at ho; cases ho
 ·intro hm
  exact mem_esL (by rw [e]; simp) hm
theorem Dct.memk {w : World} {B d x : Nat} {D : Dg} (h : Dct w B d x D) {a c : List Lf} {f : Lf} {k : BA} (e : D.L = a ++ f :: c) (h2 : ∀ u ∈ a, isIn u.pt (hsh x k) = false) (h3 : ∀ u ∈ c, isIn u.pt (hsh x k) = false) : k ∈ Ae D.es ↔ k ∈ Ae f.es := by
 constructor
 ·intro hm
  obtain ⟨⟨k', v⟩, hm2, rfl⟩ := List.mem_map.1 hm
  exact List.mem_map.2 ⟨_, (h.mem e h2 h3).1 hm2, rfl⟩
 ·intro hm
  obtain ⟨⟨k', v⟩, hm2, rfl⟩ := List.mem_map.1 hm
  exact List.mem_map.2 ⟨_, (h.mem e h2 h3).2 hm2, rfl⟩
theorem Len64_pow (g : Nat) (hg : g ≤ 16) (w : World) : Calls Tryz.prog 199 #[.int .u64 ((2 ^ g : Nat) : Int)] w fun e w' => e = .returned (.int .i64 ((g : Int) + 1)) ∧ w' = w := by
 rcases (by omega : g = 0 ∨ g = 1 ∨ g = 2 ∨ g = 3 ∨ g = 4 ∨ g = 5 ∨ g = 6 ∨ g = 7 ∨ g = 8 ∨ g = 9 ∨ g = 10 ∨ g = 11 ∨ g = 12 ∨ g = 13 ∨ g = 14 ∨ g = 15 ∨ g = 16) with rfl | rfl | rfl | rfl | rfl | rfl | rfl | rfl | rfl | rfl | rfl | rfl | rfl | rfl | rfl | rfl | rfl
 all_goals
  go_enter Tryz.func199, Tryz.ntmps199
  go_wp2
  go_ret
  exact ⟨by kernel_rfl, rfl⟩
theorem Len_pow (g : Nat) (hg : g ≤ 16) (w : World) : Calls Tryz.prog 160 #[.int .u64 ((2 ^ g : Nat) : Int)] w fun e w' => e = .returned (.int .i64 ((g : Int) + 1)) ∧ w' = w := by
 have H := fun w => Len64_pow g hg w
 generalize ((2 ^ g : Nat) : Int) = p at H
 go_enter Tryz.func160, Tryz.ntmps160
 go_wp2_with fail
 refine (H _).mono ?_
 rintro e w ⟨rfl, rfl⟩
 go_wp2
 go_ret
 exact ⟨rfl, rfl⟩
theorem Depth_any (B d x : Nat) (D : Dg) (w : World) (hD : Dct w B d x D) : Calls Tryz.prog 112 #[ptr d] w fun e w' => e = .returned (.int .i64 (D.g : Nat)) ∧ w' = w := by
 have hc := hD.cpl
 have hg := hD.shp.le
 have H := fun w => Len_pow D.g hg w
 have hp := hD.pow
 generalize D.g = g at hc hg H hp ⊢
 generalize 2 ^ g = p at hc H hp
 clear hD
 go_enter Tryz.func112, Tryz.ntmps112
 go_wp2_with fail
 refine (H _).mono ?_
 rintro e w ⟨rfl, rfl⟩
 go_wp2
 go_ret
 exact ⟨by go_num, rfl⟩
theorem Len_dict (B d x : Nat) (D : Dg) (w : World) (hD : Dct w B d x D) : Calls Tryz.prog 47 #[ptr d] w fun e w' => e = .returned (.int .i64 (D.es.length : Nat)) ∧ w' = w := by
 have hc := hD.ccnt
 clear hD
 go_enter Tryz.func47, Tryz.ntmps47
 go_wp2
 go_ret
 exact ⟨rfl, rfl⟩
theorem A8 (B d x : Nat) (D : Dg) (f : Lf) (h : Nat) (w : World) (hD : Dct w B d x D) (hf : f ∈ D.L) (hi : isIn f.pt h = true) (hh : h < 18446744073709551616) :
  Calls Tryz.prog 120 #[ptr d, .int .u64 h] w fun e w' => e = .returned (ptr f.a) ∧ Below w.heap.size w w' := by
 have HD : Hid (Dct w B d x D) := hD
 have hc := hD.cpl
 have hp := hD.pow
 obtain ⟨hpl, hlt⟩ := hD.place hf hi
 have hrow := OwnP.cell hD.row hpl
 have hg := hD.shp.le
 have HDe := fun q => Depth_any B d x D (w.drewN q) (hD.keep (Aa w q))
 have HLo := fun w => Low_any h D.g w hh (by omega) (by omega)
 rw [low_dep, dep_nat hg] at HLo
 generalize D.g = g at hc hg hp hlt HDe HLo hrow
 generalize h % 2 ^ g = i at hlt HLo hrow
 generalize 2 ^ g = p at hc hp hlt
 have hiz : (i : Int) < p := by omega
 clear hD hpl
 go_enter Tryz.func120, Tryz.ntmps120
 go_wp2
 go_quiet ((first | (go_at_call 112; with_reducible exact Calls.quiet_of_same (HDe _)) | (go_at_call 127; with_reducible exact Calls.quiet_of_same (HLo _))))
 go_wp2
 go_ret
 exact ⟨rfl, Aa _ _⟩
theorem val_one {es : List En} (hn : (Ae es).Nodup) {k : BA} {u v : (Option Addr)} (h1 : (k, u) ∈ es) (h2 : (k, v) ∈ es) : u = v := by
 induction es with
 | nil => cases h1
 | cons e es ih =>
  replace hn : (e.1 :: Ae es).Nodup := hn
  rw [List.nodup_cons] at hn
  rcases List.mem_cons.1 h1 with e1 | g1
  ·subst e1
   rcases List.mem_cons.1 h2 with e2 | g2
   ·exact (Prod.mk.inj e2).2.symm
   ·exact absurd (List.mem_map.2 ⟨_, g2, rfl⟩) hn.1
  ·rcases List.mem_cons.1 h2 with e2 | g2
   ·subst e2
    exact absurd (List.mem_map.2 ⟨_, g1, rfl⟩) hn.1
   ·exact ih hn.2 g1 g2
theorem Of_hsh (x : Nat) (k : BA) (w : World) (hks : k.size ≤ maxLen) (hx : x < 18446744073709551616) : Calls Tryz.prog 88 #[.int .u64 x, .string k] w fun e w' => e = .returned (.int .u64 (hsh x k : Nat)) ∧ w' = w := Of_any x k w hks hx
theorem Get_dsome (B d x : Nat) (D : Dg) (k : BA) (v : (Option Addr)) (w : World) (hD : Dct w B d x D) (hks : k.size ≤ maxLen) (hk : (k, v) ∈ D.es) :
  Calls Tryz.prog 83 #[ptr d, .string k] w fun e w' => e = .returned (.tuple #[.pointer v, .bool true]) ∧ Below w.heap.size w w' := by
 obtain ⟨La, f, Lc, eL, hi, h2, h3⟩ := hD.parts (hsh x k)
 have hf : f ∈ D.L := by rw [eL]; simp
 have HK : Hid ((k, v) ∈ tsEs f.ts) := (hD.mem eL h2 h3).1 hk
 have HD : Hid (Dct w B d x D) := hD
 have hc := hD.cseed
 have HOf := fun w => Of_hsh x k w hks hD.seed
 have HLf := fun w hD => A8 B d x D f (hsh x k) w hD hf hi (Cp x k)
 have HL : Hid (Leaf w B x f) := hD.leaf f hf
 have hmx := HL.out.max
 have HKS : Hid (k.size ≤ maxLen) := hks
 generalize hm : f.ts.length = m at hmx
 have HM : Hid (f.ts.length = m) := hm
 generalize hsh x k = h at HOf HLf
 clear hD hk hks hm hi h2 h3 eL hf
 go_enter Tryz.func83, Tryz.ntmps83
 go_wp2_with fail
 refine (HOf _).mono ?_
 rintro e w ⟨rfl, rfl⟩
 go_wp2_with fail
 refine (HLf _ HD.out).mono ?_
 rintro e w1 ⟨rfl, hb1⟩
 have HB1 : Hid (Below w.heap.size w w1) := hb1
 have hc1 := (HL.out.keep hb1).tabs
 rw [HM.out] at hc1
 clear HOf HLf hb1 hc
 go_wp2
 go_loopg [7, 8, 9, 23] m (fun q tv vv bv iv wr => ∃ i : Nat, i + q = m ∧ iv = .int .i64 i ∧ Hid (k ∉ Ae (tsEs (f.ts.take i))) ∧ Hid (Below w.heap.size w wr))
 case atStart => exact ⟨0, by omega, rfl, (by simp [tsEs] : k ∉ _), HB1⟩
 case round =>
  obtain ⟨i, hi, rfl, HNo, HB⟩ := hrel
  by_cases h8 : (i : Int) < m
  ·obtain ⟨t, ht, htm⟩ := A6 (l := f.ts) (i := i) (by have := HM.out; omega)
   have hcc := (HL.out.keep HB.out).at ht
   have HTab : Hid (Tab wr B t.p t.b x t.G t.z) := (HL.out.keep HB.out).tab t htm
   by_cases hin : k ∈ (ents t.z).map (·.1)
   ·obtain ⟨⟨k0, v'⟩, hv, rfl⟩ := List.mem_map.1 hin
    have hvv : v' = v := val_one HL.out.key (List.mem_flatMap.2 ⟨t, htm, hv⟩) HK.out
    subst hvv
    have hG := Get_some _ _ _ _ _ _ k0 v' _ HTab.out HKS.out hv
    clear ht htm hin hv
    go_wp2_with fail
    refine hG.mono ?_
    rintro e w2 ⟨rfl, hb2⟩
    have HB2 := Ad HB hb2
    clear hb2 hG
    go_wp2
    go_ret2
    exact ⟨rfl, HB2.out⟩
   ·have hG := Get_none _ _ _ _ _ _ k _ HTab.out HKS.out hin
    have HNo1 : Hid (k ∉ Ae (tsEs (f.ts.take (i + 1)))) := by
     show k ∉ _
     rw [B3 ht, An, Aj, Bv, List.mem_append]
     exact fun h => h.elim HNo.out hin
    clear ht htm hin
    go_wp2_with fail
    refine hG.mono ?_
    rintro e w2 ⟨rfl, hb2⟩
    have HB2 := Ad HB hb2
    clear hb2 hG
    go_wp2
    go_roundg (gk - 1)
    case measure => omega
    case rel => exact ⟨i + 1, by omega, by go_num, HNo1, HB2⟩
  ·exact absurd (List.mem_map.2 ⟨_, HK.out, rfl⟩) (by have := HNo.out; rw [List.take_of_length_le (by have := HM.out; omega)] at this; exact this)
theorem Get_dnone (B d x : Nat) (D : Dg) (k : BA) (w : World) (hD : Dct w B d x D) (hks : k.size ≤ maxLen) (hk : k ∉ Ae D.es) :
  Calls Tryz.prog 83 #[ptr d, .string k] w fun e w' => e = .returned (.tuple #[.pointer none, .bool false]) ∧ Below w.heap.size w w' := by
 obtain ⟨La, f, Lc, eL, hi, h2, h3⟩ := hD.parts (hsh x k)
 have hf : f ∈ D.L := by rw [eL]; simp
 have HK : Hid (k ∉ Ae f.es) := fun h => hk ((hD.memk eL h2 h3).2 h)
 have HD : Hid (Dct w B d x D) := hD
 have hc := hD.cseed
 have HOf := fun w => Of_hsh x k w hks hD.seed
 have HLf := fun w hD => A8 B d x D f (hsh x k) w hD hf hi (Cp x k)
 have HL : Hid (Leaf w B x f) := hD.leaf f hf
 have hmx := HL.out.max
 have HKS : Hid (k.size ≤ maxLen) := hks
 generalize hm : f.ts.length = m at hmx
 have HM : Hid (f.ts.length = m) := hm
 generalize hsh x k = h at HOf HLf
 clear hD hk hks hm hi h2 h3 eL hf
 go_enter Tryz.func83, Tryz.ntmps83
 go_wp2_with fail
 refine (HOf _).mono ?_
 rintro e w ⟨rfl, rfl⟩
 go_wp2_with fail
 refine (HLf _ HD.out).mono ?_
 rintro e w1 ⟨rfl, hb1⟩
 have HB1 : Hid (Below w.heap.size w w1) := hb1
 have hc1 := (HL.out.keep hb1).tabs
 rw [HM.out] at hc1
 clear HOf HLf hb1 hc
 go_wp2
 go_loopg [7, 8, 9, 23] m (fun q tv vv bv iv wr => ∃ i : Nat, i + q = m ∧ iv = .int .i64 i ∧ Hid (Below w.heap.size w wr))
 case atStart => exact ⟨0, by omega, rfl, HB1⟩
 case round =>
  obtain ⟨i, hi, rfl, HB⟩ := hrel
  by_cases h8 : (i : Int) < m
  ·obtain ⟨t, ht, htm⟩ := A6 (l := f.ts) (i := i) (by have := HM.out; omega)
   have hcc := (HL.out.keep HB.out).at ht
   have hG := Get_none _ _ _ _ _ _ k _ ((HL.out.keep HB.out).tab t htm) HKS.out (not_in_tab HK.out htm)
   clear ht htm
   go_wp2_with fail
   refine hG.mono ?_
   rintro e w2 ⟨rfl, hb2⟩
   have HB2 := Ad HB hb2
   clear hb2 hG
   go_wp2
   go_roundg (gk - 1)
   case measure => omega
   case rel => exact ⟨i + 1, by omega, by go_num, HB2⟩
  ·go_wp2
   go_ret2
   exact ⟨rfl, HB.out⟩
def ordU (L : List Lf) (n : Nat) : List Lf := (List.range n).filterMap fun i => L.find? fun f => decide (f.q = i)
theorem Dct.same {w : World} {B d x : Nat} {D : Dg} (h : Dct w B d x D) {f u : Lf} (hf : f ∈ D.L) (hu : u ∈ D.L) {i : Nat} (h1 : isIn f.pt i = true) (h2 : isIn u.pt i = true) : f = u := by
 obtain ⟨j, hj, rfl⟩ := List.getElem_of_mem hf
 obtain ⟨k, hk, rfl⟩ := List.getElem_of_mem hu
 have hl : D.sh.length = D.L.length := List.length_map ..
 have e1 : D.sh[j]'(by omega) = D.L[j].pt := by simp [Dg.sh, shL]
 have e2 : D.sh[k]'(by omega) = D.L[k].pt := by simp [Dg.sh, shL]
 have := h.shp.one (i := j) (j := k) (by omega) (by omega) (h := i) (by rw [e1]; exact h1) (by rw [e2]; exact h2)
 subst this
 rfl
theorem Dct.self {w : World} {B d x : Nat} {D : Dg} (h : Dct w B d x D) {f : Lf} (hf : f ∈ D.L) : isIn f.pt f.q = true := isIn_self (h.lef hf).2.2
theorem Dct.find {w : World} {B d x : Nat} {D : Dg} (h : Dct w B d x D) {f : Lf} (hf : f ∈ D.L) : D.L.find? (fun u => decide (u.q = f.q)) = some f := by
 have : (D.L.find? (fun u => decide (u.q = f.q))).isSome = true := by rw [List.find?_isSome]; exact ⟨f, hf, by simp⟩
 obtain ⟨u, hu⟩ := Option.isSome_iff_exists.1 this
 have h1 := List.mem_of_find?_eq_some hu
 have h2 : u.q = f.q := by simpa using List.find?_some hu
 rw [hu]
 have := h.self h1
 rw [h2] at this
 rw [h.same h1 hf this (h.self hf)]
theorem Dct.ord_step {w : World} {B d x : Nat} {D : Dg} (h : Dct w B d x D) {f : Lf} (hf : f ∈ D.L) {i : Nat} (hi : isIn f.pt i = true) : ordU D.L (i + 1) = ordU D.L i ++ (if i = f.q then [f] else []) := by
 unfold ordU
 rw [List.range_succ, List.filterMap_append]
 congr 1
 by_cases e : i = f.q
 ·subst e
  rw [if_pos rfl]
  simp only [List.filterMap_cons, List.filterMap_nil]
  rw [h.find hf]
 ·rw [if_neg e]
  have : D.L.find? (fun u => decide (u.q = i)) = none := by
   rw [List.find?_eq_none]
   intro u hu hq
   have hq' := of_decide_eq_true hq
   have h1 := h.self hu
   rw [hq'] at h1
   have := h.same hu hf h1 hi
   subst this
   exact e hq'.symm
  simp only [List.filterMap_cons, List.filterMap_nil, this]
theorem Dct.ord_perm {w : World} {B d x : Nat} {D : Dg} (h : Dct w B d x D) : (ordU D.L (2 ^ D.g)).Perm D.L := by
 have hn : D.L.Nodup := by
  have h1 := h.shp.dis
  unfold Dg.sh shL at h1
  rw [List.pairwise_map] at h1
  unfold List.Nodup
  refine List.Pairwise.imp_of_mem ?_ h1
  intro a b ha _ hab e
  subst e
  have := hab _ (h.self ha)
  rw [h.self ha] at this
  cases this
 refine (List.perm_ext_iff_of_nodup ?_ hn).2 fun f => ?_
 ·unfold ordU List.Nodup
  rw [List.pairwise_filterMap]
  refine List.Pairwise.imp ?_ List.nodup_range
  intro i j hij u hu v hv e
  subst e
  have h1 : u.q = i := by simpa using List.find?_some hu
  have h2 : u.q = j := by simpa using List.find?_some hv
  exact hij (h1.symm.trans h2)
 ·unfold ordU
  rw [List.mem_filterMap]
  constructor
  ·rintro ⟨i, -, hi⟩
   exact List.mem_of_find?_eq_some hi
  ·intro hf
   have hl := h.lef hf
   exact ⟨f.q, List.mem_range.2 (Nat.lt_of_lt_of_le hl.2.2 (Nat.pow_le_pow_right (by decide) hl.1)), h.find hf⟩
theorem ordU_le (L : List Lf) (n : Nat) : (ordU L n).length ≤ n := by
 unfold ordU
 have := List.length_filterMap_le (fun i => L.find? fun f => decide (f.q = i)) (List.range n)
 rwa [List.length_range] at this
theorem Dct.find_leaf {w : World} {B d x : Nat} {D : Dg} (h : Dct w B d x D) (hh : Nat) : ∃ f, f ∈ D.L ∧ isIn f.pt hh = true := by
 obtain ⟨a, f, c, e, h1, -⟩ := h.parts hh
 exact ⟨f, by rw [e]; simp, h1⟩
theorem leaves_any (B d x : Nat) (D : Dg) (w : World) (hD : Dct w B d x D) :
  Calls Tryz.prog 108 #[ptr d] w fun e w' => Below w.heap.size w w' ∧ ∃ a n c, e = .returned (.slice a n c) ∧ OwnP w' w.heap.size 123 a n c ((ordU D.L (2 ^ D.g)).map Lf.a) := by
 have HD : Hid (Dct w B d x D) := hD
 have hc := hD.cpl
 have hp := hD.pow
 have HP : Hid (∀ i, i < 2 ^ D.g → i < 65536) := fun i hi => by omega
 generalize hm : 2 ^ D.g = m at hc hp
 have HM : Hid (2 ^ D.g = m) := hm
 have HO : Hid (OwnP w w.heap.size 123 none 0 0 ((ordU D.L 0).map Lf.a)) := OwnR.nil _ _ _ _
 clear hD hm
 go_enter Tryz.func108, Tryz.ntmps108
 go_wp2
 go_loopg [3, 4, 5, 11] m (fun q sv pv lv iv wr => ∃ (i : Nat) (a : Option Addr) (n c : Nat), i + q = m ∧ iv = .int .i64 i ∧ sv = .slice a n c ∧ Hid (OwnP wr w.heap.size 123 a n c ((ordU D.L i).map Lf.a)) ∧ Hid (Below w.heap.size w wr))
 case atStart => exact ⟨0, none, 0, 0, by omega, rfl, rfl, HO, Below.refl _ _⟩
 case round =>
  clear HO
  obtain ⟨i, a, n, c, hi, rfl, rfl, HO, HB⟩ := hrel
  by_cases h8 : (i : Int) < m
  ·obtain ⟨f, hf, hin⟩ := HD.out.find_leaf i
   have hDr := HD.out.keep HB.out
   have hpl := HD.out.dir f hf i (by rw [HM.out]; omega) hin
   have hcell := OwnP.cell hDr.row hpl
   have hown := (hDr.leaf f hf).own
   have hle := HD.out.lef hf
   have HS := HD.out.ord_step hf hin
   have HN1 : Hid (n + 1 ≤ 1000000) := by
    have h1 := OwnP.len HO.out
    have h2 := ordU_le D.L i
    rw [List.length_map] at h1
    show _ ≤ _
    omega
   have hq : i / 2 ^ f.l = 0 ↔ i = f.q := by
    rw [isIn_iff] at hin
    simp only [Lf.pt] at hin
    constructor
    ·intro h
     rw [← hin, Nat.mod_eq_of_lt]
     rcases Nat.lt_or_ge i (2 ^ f.l) with h1 | h1
     ·exact h1
     ·have := Nat.div_pos h1 (pow_pos f.l); omega
    ·intro h
     rw [Nat.div_eq_of_lt]
     have := hle.2.2
     omega
   have hle16 := hle.2.1
   generalize f.l = l at hown hq hle16
   obtain ⟨z, hz⟩ : ∃ z, i / 2 ^ l = z := ⟨_, rfl⟩
   have hzz : (i : Int) / 2 ^ l = (z : Nat) := by rw [← hz]; simp
   rw [hz] at hq
   clear hz hDr hpl hle hin hf
   have hsz := HB.out.size
   by_cases e : i = f.q
   ·rw [if_pos e, ] at HS
    have HS1 : Hid ((ordU D.L (i + 1)).map Lf.a = (ordU D.L i).map Lf.a ++ [f.a]) := by show _ = _; rw [HS, List.map_append]; rfl
    obtain rfl : z = 0 := hq.2 e
    generalize f.a = fa at hcell hown HS1
    clear HS hq e
    replace hzz : (i : Int) / 2 ^ l = 0 := hzz
    go_wp2_with (at_builtin; refine append_r rfl (.tmp 23) (.tmp 25) rfl eltL w.heap.size rfl (OwnR.keep HO.out (Ac wr _)) [ptr fa] rfl rfl (by intro j u hu; cases j with | zero => (rw [Af]; simp only [World.cell?, heap_alloc_new]; exact hu) | succ j => simp at hu) (by simp [Value.oneCell']) (by decide) (by have := HN1.out; omega) (by have := HN1.out; unfold maxLen; omega) (Nat.le_trans hsz (Ac wr _).size) ?_; intro a3 n3 c3 w3 hn3 HO3 HG3 HW3; have HB3 : Hid (Below w.heap.size w w3) := (HB.out.trans ((Ac wr _).mono hsz)).trans ((OwnR.keep HO.out (Ac wr _)).below HG3.out (Nat.le_trans hsz (Ac wr _).size)))
    go_roundg (gk - 1)
    case measure => omega
    case rel => exact ⟨i + 1, _, _, _, by omega, by go_num, rfl, by rw [HS1.out, ← hn3]; show OwnP _ _ _ _ _ _ _; unfold OwnP; rw [pcells_append]; exact HO3.out, HB3⟩
   ·rw [if_neg e, List.append_nil] at HS
    have HS1 : Hid (ordU D.L (i + 1) = ordU D.L i) := HS
    have hz0 : ((z : Int) == 0) = false := by simp; intro h; exact e (hq.1 h)
    generalize f.a = fa at hcell hown
    clear HS hq e
    go_wp2
    go_roundg (gk - 1)
    case measure => omega
    case rel => exact ⟨i + 1, _, _, _, by omega, by go_num, rfl, by rw [HS1.out]; exact HO, HB⟩
  ·have : i = m := by omega
   subst this
   go_wp2
   go_ret
   exact ⟨HB.out, _, _, _, rfl, HO.out⟩
end Go.Proofs.YtmjeljldmmkcpaaGreat.Dk
