/- Texts that the others stand on. -/
import Derived.Test.YtmjeljldmmkcpaaGreatK8
import Derived.Test.YtmjeljldmmkcpaaGreatK14
import Derived.Test.YtmjeljldmmkcpaaGreatK9
import Derived.Test.YtmjeljldmmkcpaaGreatK10
set_option maxRecDepth 100000
set_option maxHeartbeats 8000000
namespace Go.Proofs.YtmjeljldmmkcpaaGreat.Zs.Dk
open Go.Proofs.YtmjeljldmmkcpaaGreat.Dk
open Go.RowKit Go.PlainAid
theorem val_one {es : List En} (hn : (Ae es).Nodup) {k : BA} {u v : Int} (h1 : (k, u) ∈ es) (h2 : (k, v) ∈ es) : u = v := by
 induction es with
 | nil => cases h1
 | cons e es ih =>
  replace hn : (e.1 :: Ae es).Nodup := hn
  rw [List.nodup_cons] at hn
  rcases List.mem_cons.1 h1 with e1 | g1
  ·subst e1
   rcases List.mem_cons.1 h2 with e2 | g2
   ·exact (Prod.mk.inj e2).2.symm
   ·exact absurd (List.mem_map.2 ⟨_, g2, rfl⟩) hn.1
  ·rcases List.mem_cons.1 h2 with e2 | g2
   ·subst e2
    exact absurd (List.mem_map.2 ⟨_, g1, rfl⟩) hn.1
   ·exact ih hn.2 g1 g2
theorem Get_dsome (B d x : Nat) (D : Dg) (k : BA) (v : Int) (w : World) (hD : Dct w B d x D) (hks : k.size ≤ maxLen) (hk : (k, v) ∈ D.es) :
  Calls Tryz.prog 42 #[ptr d, .string k] w fun e w' => e = .returned (.tuple #[.int .u64 v, .bool true]) ∧ Below w.heap.size w w' := by
 obtain ⟨La, f, Lc, eL, hi, h2, h3⟩ := hD.parts (hsh x k)
 have hf : f ∈ D.L := by rw [eL]; simp
 have HK : Hid ((k, v) ∈ tsEs f.ts) := (hD.mem eL h2 h3).1 hk
 have HD : Hid (Dct w B d x D) := hD
 have hc := hD.cseed
 have HOf := fun w => Of_hsh x k w hks hD.seed
 have HLf := fun w hD => A8 B d x D f (hsh x k) w hD hf hi (Cp x k)
 have HL : Hid (Leaf w B x f) := hD.leaf f hf
 have hmx := HL.out.max
 have HKS : Hid (k.size ≤ maxLen) := hks
 generalize hm : f.ts.length = m at hmx
 have HM : Hid (f.ts.length = m) := hm
 generalize hsh x k = h at HOf HLf
 clear hD hk hks hm hi h2 h3 eL hf
 go_enter Tryz.func42, Tryz.ntmps42
 go_wp2_with fail
 refine (HOf _).mono ?_
 rintro e w ⟨rfl, rfl⟩
 go_wp2_with fail
 refine (HLf _ HD.out).mono ?_
 rintro e w1 ⟨rfl, hb1⟩
 have HB1 : Hid (Below w.heap.size w w1) := hb1
 have hc1 := (HL.out.keep hb1).tabs
 rw [HM.out] at hc1
 clear HOf HLf hb1 hc
 go_wp2
 go_loopg [7, 8, 9, 23] m (fun q tv vv bv iv wr => ∃ i : Nat, i + q = m ∧ iv = .int .i64 i ∧ Hid (k ∉ Ae (tsEs (f.ts.take i))) ∧ Hid (Below w.heap.size w wr))
 case atStart => exact ⟨0, by omega, rfl, (by simp [tsEs] : k ∉ _), HB1⟩
 case round =>
  obtain ⟨i, hi, rfl, HNo, HB⟩ := hrel
  by_cases h8 : (i : Int) < m
  ·obtain ⟨t, ht, htm⟩ := A6 (l := f.ts) (i := i) (by have := HM.out; omega)
   have hcc := (HL.out.keep HB.out).at ht
   have HTab : Hid (Tab wr B t.p t.b x t.G t.z) := (HL.out.keep HB.out).tab t htm
   by_cases hin : k ∈ (ents t.z).map (·.1)
   ·obtain ⟨⟨k0, v'⟩, hv, rfl⟩ := List.mem_map.1 hin
    have hvv : v' = v := val_one HL.out.key (List.mem_flatMap.2 ⟨t, htm, hv⟩) HK.out
    subst hvv
    have hG := Get_some _ _ _ _ _ _ k0 v' _ HTab.out HKS.out hv
    clear ht htm hin hv
    go_wp2_with fail
    refine hG.mono ?_
    rintro e w2 ⟨rfl, hb2⟩
    have HB2 := Ad HB hb2
    clear hb2 hG
    go_wp2
    go_ret2
    exact ⟨rfl, HB2.out⟩
   ·have hG := Get_none _ _ _ _ _ _ k _ HTab.out HKS.out hin
    have HNo1 : Hid (k ∉ Ae (tsEs (f.ts.take (i + 1)))) := by
     show k ∉ _
     rw [B3 ht, An, Aj, Bv, List.mem_append]
     exact fun h => h.elim HNo.out hin
    clear ht htm hin
    go_wp2_with fail
    refine hG.mono ?_
    rintro e w2 ⟨rfl, hb2⟩
    have HB2 := Ad HB hb2
    clear hb2 hG
    go_wp2
    go_roundg (gk - 1)
    case measure => omega
    case rel => exact ⟨i + 1, by omega, by go_num, HNo1, HB2⟩
  ·exact absurd (List.mem_map.2 ⟨_, HK.out, rfl⟩) (by have := HNo.out; rw [List.take_of_length_le (by have := HM.out; omega)] at this; exact this)
theorem Get_dnone (B d x : Nat) (D : Dg) (k : BA) (w : World) (hD : Dct w B d x D) (hks : k.size ≤ maxLen) (hk : k ∉ Ae D.es) :
  Calls Tryz.prog 42 #[ptr d, .string k] w fun e w' => e = .returned (.tuple #[.int .u64 0, .bool false]) ∧ Below w.heap.size w w' := by
 obtain ⟨La, f, Lc, eL, hi, h2, h3⟩ := hD.parts (hsh x k)
 have hf : f ∈ D.L := by rw [eL]; simp
 have HK : Hid (k ∉ Ae f.es) := fun h => hk ((hD.memk eL h2 h3).2 h)
 have HD : Hid (Dct w B d x D) := hD
 have hc := hD.cseed
 have HOf := fun w => Of_hsh x k w hks hD.seed
 have HLf := fun w hD => A8 B d x D f (hsh x k) w hD hf hi (Cp x k)
 have HL : Hid (Leaf w B x f) := hD.leaf f hf
 have hmx := HL.out.max
 have HKS : Hid (k.size ≤ maxLen) := hks
 generalize hm : f.ts.length = m at hmx
 have HM : Hid (f.ts.length = m) := hm
 generalize hsh x k = h at HOf HLf
 clear hD hk hks hm hi h2 h3 eL hf
 go_enter Tryz.func42, Tryz.ntmps42
 go_wp2_with fail
 refine (HOf _).mono ?_
 rintro e w ⟨rfl, rfl⟩
 go_wp2_with fail
 refine (HLf _ HD.out).mono ?_
 rintro e w1 ⟨rfl, hb1⟩
 have HB1 : Hid (Below w.heap.size w w1) := hb1
 have hc1 := (HL.out.keep hb1).tabs
 rw [HM.out] at hc1
 clear HOf HLf hb1 hc
 go_wp2
 go_loopg [7, 8, 9, 23] m (fun q tv vv bv iv wr => ∃ i : Nat, i + q = m ∧ iv = .int .i64 i ∧ Hid (Below w.heap.size w wr))
 case atStart => exact ⟨0, by omega, rfl, HB1⟩
 case round =>
  obtain ⟨i, hi, rfl, HB⟩ := hrel
  by_cases h8 : (i : Int) < m
  ·obtain ⟨t, ht, htm⟩ := A6 (l := f.ts) (i := i) (by have := HM.out; omega)
   have hcc := (HL.out.keep HB.out).at ht
   have hG := Get_none _ _ _ _ _ _ k _ ((HL.out.keep HB.out).tab t htm) HKS.out (not_in_tab HK.out htm)
   clear ht htm
   go_wp2_with fail
   refine hG.mono ?_
   rintro e w2 ⟨rfl, hb2⟩
   have HB2 := Ad HB hb2
   clear hb2 hG
   go_wp2
   go_roundg (gk - 1)
   case measure => omega
   case rel => exact ⟨i + 1, by omega, by go_num, HB2⟩
  ·go_wp2
   go_ret2
   exact ⟨rfl, HB.out⟩
def ordU (L : List Lf) (n : Nat) : List Lf := (List.range n).filterMap fun i => L.find? fun f => decide (f.q = i)
theorem Dct.same {w : World} {B d x : Nat} {D : Dg} (h : Dct w B d x D) {f u : Lf} (hf : f ∈ D.L) (hu : u ∈ D.L) {i : Nat} (h1 : isIn f.pt i = true) (h2 : isIn u.pt i = true) : f = u := by
 obtain ⟨j, hj, rfl⟩ := List.getElem_of_mem hf
 obtain ⟨k, hk, rfl⟩ := List.getElem_of_mem hu
 have hl : D.sh.length = D.L.length := List.length_map ..
 have e1 : D.sh[j]'(by omega) = D.L[j].pt := by simp [Dg.sh, shL]
 have e2 : D.sh[k]'(by omega) = D.L[k].pt := by simp [Dg.sh, shL]
 have := h.shp.one (i := j) (j := k) (by omega) (by omega) (h := i) (by rw [e1]; exact h1) (by rw [e2]; exact h2)
 subst this
 rfl
theorem Dct.self {w : World} {B d x : Nat} {D : Dg} (h : Dct w B d x D) {f : Lf} (hf : f ∈ D.L) : isIn f.pt f.q = true := isIn_self (h.lef hf).2.2
theorem Dct.find {w : World} {B d x : Nat} {D : Dg} (h : Dct w B d x D) {f : Lf} (hf : f ∈ D.L) : D.L.find? (fun u => decide (u.q = f.q)) = some f := by
 have : (D.L.find? (fun u => decide (u.q = f.q))).isSome = true := by rw [List.find?_isSome]; exact ⟨f, hf, by simp⟩
 obtain ⟨u, hu⟩ := Option.isSome_iff_exists.1 this
 have h1 := List.mem_of_find?_eq_some hu
 have h2 : u.q = f.q := by simpa using List.find?_some hu
 rw [hu]
 have := h.self h1
 rw [h2] at this
 rw [h.same h1 hf this (h.self hf)]
theorem Dct.ord_perm {w : World} {B d x : Nat} {D : Dg} (h : Dct w B d x D) : (ordU D.L (2 ^ D.g)).Perm D.L := by
 have hn : D.L.Nodup := by
  have h1 := h.shp.dis
  unfold Dg.sh shL at h1
  rw [List.pairwise_map] at h1
  unfold List.Nodup
  refine List.Pairwise.imp_of_mem ?_ h1
  intro a b ha _ hab e
  subst e
  have := hab _ (h.self ha)
  rw [h.self ha] at this
  cases this
 refine (List.perm_ext_iff_of_nodup ?_ hn).2 fun f => ?_
 ·unfold ordU List.Nodup
  rw [List.pairwise_filterMap]
  refine List.Pairwise.imp ?_ List.nodup_range
  intro i j hij u hu v hv e
  subst e
  have h1 : u.q = i := by simpa using List.find?_some hu
  have h2 : u.q = j := by simpa using List.find?_some hv
  exact hij (h1.symm.trans h2)
 ·unfold ordU
  rw [List.mem_filterMap]
  constructor
  ·rintro ⟨i, -, hi⟩
   exact List.mem_of_find?_eq_some hi
  ·intro hf
   have hl := h.lef hf
   exact ⟨f.q, List.mem_range.2 (Nat.lt_of_lt_of_le hl.2.2 (Nat.pow_le_pow_right (by decide) hl.1)), h.find hf⟩
def Dg.fp (D : Dg) (d : Nat) : List Nat := d :: D.pb :: fpL D.L
structure Turn (w w' : World) (B d x : Nat) (D D' : Dg) : Prop where
 dct : Dct w' B d x D'
 stay : Stay w w' (D.fp d)
 fps : ∀ j ∈ D'.fp d, j ∈ D.fp d ∨ w.heap.size ≤ j
theorem Turn.first {w w0 w' : World} {B d x : Nat} {D D' : Dg} (h : Turn w w' B d x D D') (hb : Below w0.heap.size w0 w) : Turn w0 w' B d x D D' :=
 ⟨h.dct, (Stay.of_below hb _).trans h.stay (fun _ hi => .inl hi), fun j hj => (h.fps j hj).imp id (fun k => Nat.le_trans hb.size k)⟩
theorem Turn.trans {w w1 w2 : World} {B d x : Nat} {D D1 D2 : Dg} (h : Turn w w1 B d x D D1) (k : Turn w1 w2 B d x D1 D2) : Turn w w2 B d x D D2 :=
 ⟨k.dct, h.stay.trans k.stay (fun i hi => h.fps i hi), fun j hj => (k.fps j hj).elim (h.fps j) (fun e => .inr (Nat.le_trans h.stay.size e))⟩
theorem Turn.below {w w' : World} {B d x : Nat} {D D' : Dg} (h : Turn w w' B d x D D') (hD : Dct w B d x D) : Below B w w' :=
 h.stay.below (fun i hi => (hD.fplt i hi).1) (by have := hD.low; have := hD.lt; omega)
theorem Turn.refl {w w' : World} {B d x : Nat} {D : Dg} (h : Dct w B d x D) (hb : Below w.heap.size w w') : Turn w w' B d x D D := ⟨h.keep hb, Stay.of_below hb _, fun _ hj => .inl hj⟩
theorem Dct.turn {w w' w'' : World} {B d x : Nat} {D : Dg} {La Lc : List Lf} {f f' : Lf} (h : Dct w B d x D) (e : D.L = La ++ f :: Lc) (hG : Grew w w' B x f f')
  (hb : w''.heap[d]? = some (.cells #[.int .u64 (x : Nat), .int .i64 ((esL (La ++ f' :: Lc)).length : Nat), .slice (some ⟨D.pb, 0, none⟩) (2 ^ D.g) D.cap] 136 (0, 0))) (hs : Stay w' w'' [d])
  (hown : ∀ e ∈ f'.es, isIn f.pt (hsh x e.1) = true) (hone : f.l < 16 → f'.ts.length = 1) (hful : Ful f') (hle : (esL (La ++ f' :: Lc)).length ≤ 1000000) :
  Turn w w'' B d x D { D with L := La ++ f' :: Lc } := by
 have hpt : f'.pt = f.pt := by unfold Lf.pt; rw [hG.l, hG.q]
 have hnod := h.nod
 rw [e, Bg, Bw] at hnod
 have hlt := h.fplt
 rw [e, Bg, Bw] at hlt
 obtain ⟨n1, n2⟩ := List.nodup_cons.1 hnod
 obtain ⟨n3, n4⟩ := List.nodup_cons.1 n2
 rw [List.nodup_append, List.nodup_append] at n4
 obtain ⟨n5, ⟨n6, n7, n8⟩, n9⟩ := n4
 simp only [List.mem_cons, List.mem_append, not_or] at n1 n3
 have hd' : ∀ k ∈ f'.fp, k ≠ d := fun k hk e => by
  subst e
  rcases hG.fps k hk with h1 | h1
  ·exact n1.2.2.1 h1
  ·have := h.lt; omega
 have hp' : ∀ k ∈ f'.fp, k ≠ D.pb := fun k hk e => by
  subst e
  rcases hG.fps _ hk with h1 | h1
  ·exact n3.2.1 h1
  ·have := hlt D.pb (by simp); omega
 have hS : Stay w w'' (d :: f.fp) := (hG.stay.mono (fun i hi => List.mem_cons_of_mem _ hi)).trans (hs.mono (M' := [d]) (fun i hi => hi)) (fun i hi => .inl (by simp at hi; simp [hi]))
 have hleafs : ∀ u ∈ La ++ f' :: Lc, Leaf w'' B x u := by
  intro u hu
  rcases List.mem_append.1 hu with hu | hu
  ·refine (h.leaf u (by rw [e]; simp [hu])).stay hS (fun k hk => ?_)
   simp only [List.mem_cons, not_or]
   exact ⟨fun e => n1.2.1 (e ▸ B5 hu hk), fun hk2 => n9 k (B5 hu hk) k (by simp [hk2]) rfl⟩
  ·rcases List.mem_cons.1 hu with rfl | hu
   ·exact hG.leaf.stay hs (fun k hk => by simpa using hd' k hk)
   ·refine (h.leaf u (by rw [e]; simp [hu])).stay hS (fun k hk => ?_)
    simp only [List.mem_cons, not_or]
    exact ⟨fun e => n1.2.2.2 (e ▸ B5 hu hk), fun hk2 => n8 k hk2 k (B5 hu hk) rfl⟩
 refine ⟨⟨hb, ?_, hleafs, ?_, ?_, ?_, ?_, ?_, ?_, h.low, h.seed, hle⟩, ?_, ?_⟩
 ·refine OwnR.stay h.row hS (fun k hk => ?_)
  cases hk
  simp only [List.mem_cons, not_or]
  exact ⟨fun e => n1.1 e.symm, n3.2.1⟩
 ·show Shp D.g (shL (La ++ f' :: Lc))
  have := h.shp
  unfold Dg.sh shL at this
  rw [e, List.map_append, List.map_cons] at this
  unfold shL
  rw [List.map_append, List.map_cons, hpt]
  exact this
 ·intro u hu i hi hin
  rcases List.mem_append.1 hu with hu | hu
  ·exact h.dir u (by rw [e]; simp [hu]) i hi hin
  ·rcases List.mem_cons.1 hu with rfl | hu
   ·rw [hG.a]
    rw [hpt] at hin
    exact h.dir f (by rw [e]; simp) i hi hin
   ·exact h.dir u (by rw [e]; simp [hu]) i hi hin
 ·intro u hu
  rcases List.mem_append.1 hu with hu | hu
  ·exact h.own u (by rw [e]; simp [hu])
  ·rcases List.mem_cons.1 hu with rfl | hu
   ·rw [hpt]; exact hown
   ·exact h.own u (by rw [e]; simp [hu])
 ·intro u hu
  rcases List.mem_append.1 hu with hu | hu
  ·exact h.one u (by rw [e]; simp [hu])
  ·rcases List.mem_cons.1 hu with rfl | hu
   ·rw [hG.l]; exact hone
   ·exact h.one u (by rw [e]; simp [hu])
 ·intro u hu
  rcases List.mem_append.1 hu with hu | hu
  ·exact h.ful u (by rw [e]; simp [hu])
  ·rcases List.mem_cons.1 hu with rfl | hu
   ·exact hful
   ·exact h.ful u (by rw [e]; simp [hu])
 ·show (d :: D.pb :: fpL (La ++ f' :: Lc)).Nodup
  rw [Bg, Bw, List.nodup_cons, List.nodup_cons, List.nodup_append, List.nodup_append]
  refine ⟨?_, ?_, n5, ⟨hG.leaf.nod, n7, ?_⟩, ?_⟩
  ·simp only [List.mem_cons, List.mem_append, not_or]
   exact ⟨n1.1, n1.2.1, fun hk => hd' d hk rfl, n1.2.2.2⟩
  ·simp only [List.mem_append, not_or]
   exact ⟨n3.1, fun hk => hp' _ hk rfl, n3.2.2⟩
  ·intro a ha b hb2 e2
   subst e2
   rcases hG.fps a ha with h1 | h1
   ·exact n8 a h1 a hb2 rfl
   ·have := hlt a (by simp [hb2]); omega
  ·intro a ha b hb2 e2
   subst e2
   rcases List.mem_append.1 hb2 with hb2 | hb2
   ·rcases hG.fps a hb2 with h1 | h1
    ·exact n9 a ha a (by simp [h1]) rfl
    ·have := hlt a (by simp [ha]); omega
   ·exact n9 a ha a (by simp [hb2]) rfl
 ·refine hS.mono (fun i hi => ?_)
  unfold Dg.fp
  rw [e, Bg, Bw]
  rcases List.mem_cons.1 hi with rfl | hi
  ·simp
  ·simp [hi]
 ·intro j hj
  change j ∈ d :: D.pb :: fpL (La ++ f' :: Lc) at hj
  unfold Dg.fp
  rw [e]
  rw [Bg, Bw] at hj ⊢
  simp only [List.mem_cons, List.mem_append] at hj ⊢
  rcases hj with hj | hj | hj | hj | hj
  ·exact .inl (.inl hj)
  ·exact .inl (.inr (.inl hj))
  ·exact .inl (.inr (.inr (.inl hj)))
  ·exact (hG.fps j hj).imp (fun h1 => .inr (.inr (.inr (.inl h1)))) id
  ·exact .inl (.inr (.inr (.inr (.inr hj))))
theorem Leaf.made {w1 w2 : World} {B x l a p b G : Nat} {z : List Cl} (q : Nat) (hT : Tab w1 B p b x G z) (hb : Below w1.heap.size w1 w2) (ha : w1.heap.size < a)
  (hblk : w2.heap[a]? = some (.cells #[.int .i64 (l : Nat), .slice (some ⟨w1.heap.size, 0, none⟩) 1 1] 156 (0, 0))) (hrow : OwnP w2 w1.heap.size 132 (some ⟨w1.heap.size, 0, none⟩) 1 1 [p]) (hB : B ≤ w1.heap.size) :
  Leaf w2 B x ⟨l, q, a, w1.heap.size, 1, [⟨p, b, G, z⟩]⟩ := by
 have h1 := hT.top.lt
 have h2 := hT.row.lt
 have h3 := hT.top.ne hT.row
 refine ⟨hblk, OwnR.low hrow hB, ?_, by show B ≤ a; omega, ?_, ?_, Nat.one_pos⟩
 ·intro t ht
  cases List.mem_singleton.1 ht
  exact hT.keep hb
 ·show [a, w1.heap.size, p, b].Nodup
  simp only [List.nodup_cons, List.mem_cons, List.not_mem_nil, or_false, not_or, not_false_eq_true, List.nodup_nil, and_true]
  omega
 ·show (Ae (tsEs [(⟨p, b, G, z⟩ : Tb)])).Nodup
  rw [Bv]
  exact hT.inv.nod
theorem New_dict (x : Nat) (w : World) (hx : x < 18446744073709551616) :
  Calls Tryz.prog 35 #[.int .u64 x] w fun e w' => Below w.heap.size w w' ∧ ∃ d D, e = .returned (ptr d) ∧ Dct w' w.heap.size d x D ∧ D.g = 0 ∧ D.sh = [(0, 0)] ∧ D.es = [] := by
 have HN := New_tab x w hx
 have HX : Hid (x < 18446744073709551616) := hx
 clear hx
 go_enter Tryz.func35, Tryz.ntmps35
 go_wp2_with fail
 refine HN.mono ?_
 rintro e w1 ⟨hb1, p, b, rfl, hT1, -⟩
 have HB1 : Hid (Below w.heap.size w w1) := hb1
 have HT1 : Hid (Tab w1 w.heap.size p b x 1 (Be 1)) := hT1
 have hL := newLeaf_any 0 p w1
 clear hb1 hT1 HN
 go_wp2_with fail
 refine hL.mono ?_
 rintro e w2 ⟨hb2, a, rfl, ha, hal, hblk, hrow⟩
 have HB2 := Ad HB1 hb2
 have HL2 : Hid (Leaf w2 w.heap.size x ⟨0, 0, a, w1.heap.size, 1, [⟨p, b, 1, Be 1⟩]⟩) := Leaf.made 0 HT1.out hb2 ha hblk hrow HB1.out.size
 clear hb2 ha hal hblk hrow hL
 obtain ⟨w3, hw3⟩ : ∃ w3, w2.alloc (.cells #[ptr a] 130) = w3 := ⟨_, rfl⟩
 have HB3' : Hid (Below w2.heap.size w2 w3) := by show Below _ _ _; rw [← hw3]; exact Ac w2 _
 have HS3 : Hid (w3.heap.size = w2.heap.size + 1) := by show _ = _; rw [← hw3]; exact size_alloc w2 _
 have HO3 : Hid (OwnP w3 w2.heap.size 130 (some ⟨w2.heap.size, 0, none⟩) 1 1 [a]) := by
  show OwnP _ _ _ _ _ _ _
  rw [← hw3]
  exact ⟨rfl, .inr ⟨w2.heap.size, 1, #[ptr a], rfl, Nat.le_refl _, heap_alloc_new w2 _, Nat.le_refl _, by decide, rfl, rfl⟩⟩
 obtain ⟨w4, hw4⟩ : ∃ w4, w3.alloc (.cells #[.int .u64 (x : Nat), .int .i64 0, .slice (some ⟨w2.heap.size, 0, none⟩) 1 1] 136) = w4 := ⟨_, rfl⟩
 have HB4' : Hid (Below w3.heap.size w3 w4) := by show Below _ _ _; rw [← hw4]; exact Ac w3 _
 have HK4 : Hid (w4.heap[w3.heap.size]? = some (.cells #[.int .u64 (x : Nat), .int .i64 0, .slice (some ⟨w2.heap.size, 0, none⟩) 1 1] 136 (0, 0))) := by show _ = _; rw [← hw4]; exact heap_alloc_new w3 _
 have HB3 := Ad HB2 HB3'.out
 have HB4 := Ad HB3 HB4'.out
 go_wp2
 go_ret
 refine ⟨HB4.out, w3.heap.size, ⟨0, w2.heap.size, 1, [a], [⟨0, 0, a, w1.heap.size, 1, [⟨p, b, 1, Be 1⟩]⟩]⟩, rfl, ?_, rfl, rfl, ?_⟩
 ·have hL4 : Leaf w4 w.heap.size x ⟨0, 0, a, w1.heap.size, 1, [⟨p, b, 1, Be 1⟩]⟩ := (HL2.out.keep HB3'.out).keep HB4'.out
  have hes : esL [(⟨0, 0, a, w1.heap.size, 1, [⟨p, b, 1, Be 1⟩]⟩ : Lf)] = [] := by rw [esL_one]; show tsEs _ = []; rw [Bv]; exact A9 1
  have hfl := HL2.out.fplt
  have hs2 := HB2.out.size
  have hs3 := HS3.out
  refine ⟨?_, OwnR.low (OwnR.keep HO3.out HB4'.out) HB2.out.size, ?_, Shp.new, ?_, ?_, ?_, ?_, ?_, HB3.out.size, HX.out, ?_⟩
  ·show w4.heap[w3.heap.size]? = some (.cells #[.int .u64 (x : Nat), .int .i64 ((esL [(⟨0, 0, a, w1.heap.size, 1, [⟨p, b, 1, Be 1⟩]⟩ : Lf)]).length : Nat), .slice (some ⟨w2.heap.size, 0, none⟩) (2 ^ 0) 1] 136 (0, 0))
   rw [hes]
   exact HK4.out
  ·intro f hf
   cases List.mem_singleton.1 hf
   exact hL4
  ·intro f hf i hi _
   cases List.mem_singleton.1 hf
   obtain rfl : i = 0 := by simp at hi; exact hi
   rfl
  ·intro f hf e he
   have : e ∈ esL [(⟨0, 0, a, w1.heap.size, 1, [⟨p, b, 1, Be 1⟩]⟩ : Lf)] := mem_esL hf he
   rw [hes] at this
   cases this
  ·intro f hf _
   cases List.mem_singleton.1 hf
   rfl
  ·intro f hf
   cases List.mem_singleton.1 hf
   exact .inl rfl
  ·show (w3.heap.size :: w2.heap.size :: fpL [(⟨0, 0, a, w1.heap.size, 1, [⟨p, b, 1, Be 1⟩]⟩ : Lf)]).Nodup
   rw [Bw, List.nodup_cons, List.nodup_cons]
   have e0 : fpL ([] : List Lf) = [] := rfl
   rw [e0, List.append_nil]
   refine ⟨?_, ?_, HL2.out.nod⟩
   ·rw [List.mem_cons, not_or]
    exact ⟨by omega, fun h => by have := (hfl _ h).2; omega⟩
   ·exact fun h => by have := (hfl _ h).2; omega
  ·show (esL _).length ≤ _
   rw [hes]
   decide
 ·show esL _ = []
  rw [esL_one]; show tsEs _ = []; rw [Bv]; exact A9 1
theorem Dct.siz {w : World} {B d x : Nat} {D : Dg} (h : Dct w B d x D) : ∀ e ∈ D.es, e.1.size ≤ maxLen := by
 intro e he
 obtain ⟨f, hf, he⟩ := List.mem_flatMap.1 he
 obtain ⟨t, ht, he⟩ := List.mem_flatMap.1 he
 exact ((h.leaf f hf).tab t ht).siz e he
theorem Dct.apart {w : World} {B d x : Nat} {D : Dg} (h : Dct w B d x D) {f : Lf} (hf : f ∈ D.L) : d ∉ f.fp := by
 intro hd
 have := (List.nodup_cons.1 h.nod).1
 exact this (List.mem_cons_of_mem _ (B5 hf hd))
theorem PutD_old (B d x : Nat) (D : Dg) (k : BA) (u v : Int) (w : World) (hD : Dct w B d x D) (hk : (k, u) ∈ D.es) :
  Calls Tryz.prog 93 #[ptr d, .string k, .int .u64 v] w fun e w' => e = .returned (.int .i64 0) ∧ ∃ D', Turn w w' B d x D D' ∧ D'.g = D.g ∧ D'.sh = D.sh ∧ ∃ A C, D.es = A ++ (k, u) :: C ∧ D'.es = A ++ (k, v) :: C := by
 have hks := hD.siz _ hk
 obtain ⟨La, f, Lc, eL, hi, h2, h3⟩ := hD.parts (hsh x k)
 have hf : f ∈ D.L := by rw [eL]; simp
 have hkf : (k, u) ∈ f.es := (hD.mem eL h2 h3).1 hk
 have HKf : Hid ((k, u) ∈ f.es) := hkf
 have HD : Hid (Dct w B d x D) := hD
 have HeL : Hid (D.L = La ++ f :: Lc) := eL
 have Hf : Hid (f ∈ D.L) := hf
 have hc := hD.cseed
 have HOf := fun w => Of_hsh x k w hks hD.seed
 have HLf := fun w hD => A8 B d x D f (hsh x k) w hD hf hi (Cp x k)
 have HHo := fun w hL => holder_yes B x f k w hL hks (List.mem_map.2 ⟨_, hkf, rfl⟩)
 have HKS : Hid (k.size ≤ maxLen) := hks
 generalize hsh x k = h at HOf HLf
 clear hD hk hks hi h2 h3 eL hf hkf
 go_enter Tryz.func93, Tryz.ntmps93
 go_wp2_with fail
 refine (HOf _).mono ?_
 rintro e w ⟨rfl, rfl⟩
 go_wp2_with fail
 refine (HLf _ HD.out).mono ?_
 rintro e w1 ⟨rfl, hb1⟩
 have HB1 : Hid (Below w.heap.size w w1) := hb1
 have hHo := HHo _ ((HD.out.keep hb1).leaf f Hf.out)
 clear HOf HLf HHo hb1
 go_wp2_with fail
 refine hHo.mono ?_
 rintro e w2 ⟨hb2, t, rfl, htm, hk2⟩
 have HB2 := Ad HB1 hb2
 have HL2 : Hid (Leaf w2 B x f) := (HD.out.keep HB2.out).leaf f Hf.out
 have Htm : Hid (t ∈ f.ts) := htm
 have hP := Put_old _ _ _ _ _ _ k v _ (HL2.out.tab t htm) HKS.out hk2
 clear hb2 htm hk2 hHo HB1
 go_wp2_with fail
 refine hP.mono ?_
 rintro e w3 ⟨rfl, hm3, z3, hT3, a3, c3, u3, hz, hz3⟩
 have HR : Hid (∃ D', Turn w w3 B d x D D' ∧ D'.g = D.g ∧ D'.sh = D.sh ∧ ∃ A C, D.es = A ++ (k, u) :: C ∧ D'.es = A ++ (k, v) :: C) := by
  obtain ⟨pre, post, ets⟩ := List.append_of_mem Htm.out
  have hu : u3 = u := by
   refine val_one HL2.out.key (k := k) ?_ HKf.out
   refine List.mem_flatMap.2 ⟨t, Htm.out, ?_⟩
   show _ ∈ ents t.z
   rw [hz]; simp
  subst hu
  have e1 : f.es = (tsEs pre ++ a3) ++ (k, u3) :: (c3 ++ tsEs post) := by
   unfold Lf.es
   rw [ets, An, Bh]
   unfold Tb.es
   rw [hz]
   simp
  have e2 : tsEs (pre ++ ⟨t.p, t.b, t.G, z3⟩ :: post) = (tsEs pre ++ a3) ++ (k, v) :: (c3 ++ tsEs post) := by
   rw [An, Bh]
   unfold Tb.es
   rw [hz3]
   simp
  have hkn : (Ae (tsEs (pre ++ ⟨t.p, t.b, t.G, z3⟩ :: post))).Nodup := by
   have := HL2.out.key
   rw [e1] at this
   rw [e2]
   simpa [Ae] using this
  obtain ⟨k1, k2, k3⟩ := HL2.out.turn ets (Stay.of_moves hm3) hT3 (.inl rfl) hkn
  have hG : Grew w2 w3 B x f { f with ts := pre ++ ⟨t.p, t.b, t.G, z3⟩ :: post } := ⟨k1, k3, k2, rfl, rfl, rfl⟩
  have hD2 := HD.out.keep HB2.out
  have el : (esL (La ++ { f with ts := pre ++ ⟨t.p, t.b, t.G, z3⟩ :: post } :: Lc)).length = D.es.length := by
   unfold Dg.es
   rw [HeL.out, Aq, Aq, Ax, Ax, e1]
   simp only [Lf.es, e2]
   simp
  have hT := hD2.turn HeL.out hG (w'' := w3) (by rw [el, k3.block d hD2.lt (hD2.apart Hf.out)]; exact hD2.blk) (Stay.of_below (Below.refl _ _) _) ?_ ?_ ?_ (by rw [el]; exact hD2.le)
  ·refine ⟨_, hT.first HB2.out, rfl, ?_, esL La ++ (tsEs pre ++ a3), (c3 ++ tsEs post) ++ esL Lc, ?_, ?_⟩
   ·unfold Dg.sh shL
    rw [HeL.out, List.map_append, List.map_append]
    rfl
   ·unfold Dg.es
    rw [HeL.out, Aq, Ax, e1]
    simp
   ·show esL _ = _
    rw [Aq, Ax]
    show esL La ++ (tsEs _ ++ _) = _
    rw [e2]
    simp
  ·intro e he
   have he2 : e ∈ tsEs (pre ++ ⟨t.p, t.b, t.G, z3⟩ :: post) := he
   rw [e2] at he2
   have ho := HD.out.own f Hf.out
   rw [e1] at ho
   rcases List.mem_append.1 he2 with he2 | he2
   ·exact ho e (List.mem_append.2 (.inl he2))
   ·rcases List.mem_cons.1 he2 with rfl | he2
    ·exact ho (k, u3) (by simp)
    ·exact ho e (List.mem_append.2 (.inr (List.mem_cons_of_mem _ he2)))
  ·intro hl
   have := HD.out.one f Hf.out hl
   rw [ets] at this
   simp at this ⊢
   omega
  ·rcases HD.out.ful f Hf.out with h1 | h1
   ·refine .inl ?_
    rw [ets] at h1
    simp at h1 ⊢
    omega
   ·refine .inr fun y hy => ?_
    rcases List.mem_append.1 hy with hy | hy
    ·exact h1 y (by rw [ets]; simp [hy])
    ·rcases List.mem_cons.1 hy with rfl | hy
     ·show 0 < (ents z3).length
      rw [hz3, List.length_append, List.length_cons]; omega
     ·exact h1 y (by rw [ets]; simp [hy])
 clear hm3 hT3 hz hz3 hP
 go_wp2
 go_ret
 exact ⟨rfl, HR.out⟩
theorem Dct.keys_of {w : World} {B d x : Nat} {D : Dg} (h : Dct w B d x D) {La Lc : List Lf} {f : Lf} (e : D.L = La ++ f :: Lc) : (Ae D.es).filter (fun k => isIn f.pt (hsh x k)) = Ae f.es := by
 have hnod := h.nod
 rw [e, Bg, Bw] at hnod
 obtain ⟨-, n2⟩ := List.nodup_cons.1 hnod
 obtain ⟨-, n4⟩ := List.nodup_cons.1 n2
 rw [List.nodup_append, List.nodup_append] at n4
 obtain ⟨-, ⟨-, -, n8⟩, n9⟩ := n4
 have hf : f ∈ D.L := by rw [e]; simp
 have hno : ∀ (M : List Lf), (∀ u ∈ M, u ∈ D.L ∧ u ≠ f) → (Ae (esL M)).filter (fun k => isIn f.pt (hsh x k)) = [] := by
  intro M hM
  rw [List.filter_eq_nil_iff]
  intro k hk hd
  obtain ⟨en, he, rfl⟩ := List.mem_map.1 hk
  obtain ⟨u, hu, he⟩ := List.mem_flatMap.1 he
  exact (hM u hu).2 (h.same (hM u hu).1 hf (h.own u (hM u hu).1 en he) hd)
 have ha : ∀ u ∈ La, u ∈ D.L ∧ u ≠ f := fun u hu => ⟨by rw [e]; simp [hu], fun e2 => by subst e2; exact n9 u.a (B5 hu (by simp [Lf.fp])) u.a (by simp [Lf.fp]) rfl⟩
 have hc : ∀ u ∈ Lc, u ∈ D.L ∧ u ≠ f := fun u hu => ⟨by rw [e]; simp [hu], fun e2 => by subst e2; exact n8 u.a (by simp [Lf.fp]) u.a (B5 hu (by simp [Lf.fp])) rfl⟩
 unfold Dg.es
 rw [e, Aq, Ax, Aj, Aj, List.filter_append, List.filter_append, hno La ha, hno Lc hc, List.nil_append, List.append_nil, List.filter_eq_self]
 intro k hk
 obtain ⟨en, he, rfl⟩ := List.mem_map.1 hk
 exact h.own f hf en he
theorem Dct.cnt_of {w : World} {B d x : Nat} {D : Dg} (h : Dct w B d x D) {La Lc : List Lf} {f : Lf} (e : D.L = La ++ f :: Lc) : cntIn x (Ae D.es) f.pt = f.es.length := by
 unfold cntIn
 rw [h.keys_of e, List.length_map]
theorem PutD_new (B d x : Nat) (D : Dg) (k : BA) (v : Int) (w : World) (hD : Dct w B d x D) (hks : k.size ≤ maxLen) (hk : k ∉ Ae D.es) (hle : D.es.length < 112) :
  Calls Tryz.prog 93 #[ptr d, .string k, .int .u64 v] w fun e w' => e = .returned (.int .i64 0) ∧ ∃ D', Turn w w' B d x D D' ∧ (D'.g, D'.sh) = grow x (Ae D.es) (hsh x k) 17 D.g D.sh ∧ D'.es.Perm (D.es ++ [(k, v)]) := by
 obtain ⟨La, f, Lc, eL, hi, h2, h3⟩ := hD.parts (hsh x k)
 have hf : f ∈ D.L := by rw [eL]; simp
 have HD : Hid (Dct w B d x D) := hD
 have Hf : Hid (f ∈ D.L) := hf
 have hc := hD.cseed
 have hx := hD.seed
 have HOf := fun w => Of_hsh x k w hks hx
 have HLf := fun w hD => A8 B d x D f (hsh x k) w hD hf hi (Cp x k)
 have HHo := fun w hL => holder_no B x f k w hL hks (fun hm => hk ((hD.memk eL h2 h3).2 hm))
 have HKS : Hid (k.size ≤ maxLen) := hks
 have HK : Hid (k ∉ Ae D.es) := hk
 have HLe : Hid (D.es.length < 112) := hle
 have HHs : Hid (hsh x k = hsh x k) := rfl
 obtain ⟨h, eh⟩ : ∃ h, hsh x k = h := ⟨_, rfl⟩
 have HEh : Hid (hsh x k = h) := eh
 have hh : h < 18446744073709551616 := by rw [← eh]; exact Cp x k
 rw [eh] at HOf HLf ⊢
 obtain ⟨R, hR⟩ : ∃ R, grow x (Ae D.es) h 17 D.g D.sh = R := ⟨_, rfl⟩
 have HR : Hid (grow x (Ae D.es) h 17 D.g D.sh = R) := hR
 rw [hR]
 clear hD hk hks hle hi h2 h3 eL hf eh hR HHs
 go_enter Tryz.func93, Tryz.ntmps93
 go_wp2_with fail
 refine (HOf _).mono ?_
 rintro e w ⟨rfl, rfl⟩
 go_wp2_with fail
 refine (HLf _ HD.out).mono ?_
 rintro e w1 ⟨rfl, hb1⟩
 have HB1 : Hid (Below w.heap.size w w1) := hb1
 have hHo := HHo _ ((HD.out.keep hb1).leaf f Hf.out)
 clear HOf HLf HHo hb1
 go_wp2_with fail
 refine hHo.mono ?_
 rintro e w2 ⟨rfl, hb2⟩
 have HB2 := Ad HB1 hb2
 have HT2 : Hid (Turn w w2 B d x D D) := Turn.refl HD.out HB2.out
 clear hb2 hHo HB1 hc Hf HB2
 go_wp2
 go_loopg [] 17 (fun n wr => ∃ D1, Hid (Turn w wr B d x D D1) ∧ Hid (D1.es.Perm D.es) ∧ Hid (grow x (Ae D.es) h n D1.g D1.sh = R) ∧ Hid (∀ f ∈ D1.L, isIn f.pt h = true → 16 < f.l + n))
 case atStart => exact ⟨D, HT2, List.Perm.refl _, HR, (fun f _ _ => by omega : ∀ f ∈ D.L, isIn f.pt h = true → 16 < f.l + 17)⟩
 case round =>
  clear HT2 HR
  obtain ⟨D1, HT, HPm, HR, HMe⟩ := hrel
  have hD1 := HT.out.dct
  obtain ⟨La, f, Lc, eL, hi, h2, h3⟩ := hD1.parts h
  have hf : f ∈ D1.L := by rw [eL]; simp
  have HLf := fun w hD => A8 B d x D1 f h w hD hf hi hh
  have hlf := hD1.lef hf
  have HSp := fun w hL => splits_any B x f w hL hlf.2.1 (hD1.les hf)
  have HeL : Hid (D1.L = La ++ f :: Lc) := eL
  have Hf : Hid (f ∈ D1.L) := hf
  have Hi : Hid (isIn f.pt h = true) := hi
  have Ha : Hid (∀ u ∈ La, isIn u.pt h = false) := h2
  have Hcc : Hid (∀ u ∈ Lc, isIn u.pt h = false) := h3
  have HD1 : Hid (Dct wr B d x D1) := hD1
  have HCn : Hid (cntIn x (Ae D.es) f.pt = f.es.length) := by show _ = _; rw [cntIn_perm (HPm.out.map (·.1)).symm]; exact hD1.cnt_of eL
  have HshE : Hid (D1.sh = shL La ++ (f.l, f.q) :: shL Lc) := by show _ = _; unfold Dg.sh shL; rw [eL, List.map_append]; rfl
  have Ha2 : Hid (∀ s ∈ shL La, isIn s h = false) := fun s hs => by obtain ⟨u, hu, rfl⟩ := List.mem_map.1 hs; exact h2 u hu
  have hme := HMe.out f hf hi
  clear hD1 hf hi h2 h3 eL
  go_wp2_with fail
  refine (HLf _ HD1.out).mono ?_
  rintro e w3 ⟨rfl, hb3⟩
  have HB3 : Hid (Below wr.heap.size wr w3) := hb3
  have hSp := HSp _ ((HD1.out.keep hb3).leaf f Hf.out)
  clear hb3
  go_wp2_with fail
  refine hSp.mono ?_
  rintro e w3 ⟨rfl, rfl⟩
  clear hSp HSp
  have HF9 : Hid (f.es.length < 112) := by
   have h9 := HCn.out
   unfold cntIn at h9
   have h8 := List.length_filter_le (fun k => isIn f.pt (hsh x k)) (Ae D.es)
   have h7 : (Ae D.es).length = D.es.length := by unfold Ae; rw [List.length_map]
   have h6 := HLe.out
   show f.es.length < 112
   omega
  by_cases hb : f.l < 16 ∧ 112 ≤ f.es.length
  ·exfalso
   have h6 := HF9.out
   have h5 := hb.2
   omega
  ·have hbb : (decide (f.l < 16) && decide (112 ≤ f.es.length)) = false := by
    rw [Bool.and_eq_false_iff, decide_eq_false_iff_not, decide_eq_false_iff_not]
    by_cases h1 : f.l < 16
    ·exact .inr (fun h2 => hb ⟨h1, h2⟩)
    ·exact .inl h1
   have HBn : Hid (¬ (f.l < 16 ∧ 112 ≤ f.es.length)) := hb
   have HR5 : Hid ((D1.g, D1.sh) = R) := by
    have := HR.out
    rw [HshE.out, grow_no (a := shL La) (c := shL Lc) (l := f.l) (q := f.q) Hi.out Ha2.out (by have h9 := HCn.out; unfold Lf.pt at h9; rw [h9]; exact hb), ← HshE.out] at this
    exact this
   rw [hbb]
   clear hb hbb
   have HD3 : Hid (Dct w3 B d x D1) := HD1.out.keep HB3.out
   have HT3 : Hid (Turn w w3 B d x D D1) := HT.out.trans (Turn.refl HD1.out HB3.out)
   have HKf : Hid (k ∉ Ae f.es) := fun hm => by
    obtain ⟨en, he, h1⟩ := List.mem_map.1 hm
    exact HK.out (List.mem_map.2 ⟨en, HPm.out.mem_iff.1 (mem_esL Hf.out he), h1⟩)
   have HLf3 : ∀ w', Below w3.heap.size w3 w' → Calls Tryz.prog 87 #[ptr d, .int .u64 h] w' fun e w'' => e = .returned (ptr f.a) ∧ Below w'.heap.size w' w'' := fun w' hb => A8 B d x D1 f h w' (HD3.out.keep hb) Hf.out Hi.out hh
   have HAd : ∀ w', Below w3.heap.size w3 w' → Calls Tryz.prog 142 #[ptr f.a, .int .u64 x, .string k, .int .u64 v] w' fun e w'' => e = .returned (.tuple #[]) ∧ Added w3 w'' B x f k v := fun w' hb => by
    refine (add_leaf B x f k v w' ((HD3.out.keep hb).leaf f Hf.out) hx HKS.out HKf.out (by have h1 := (HD3.out.ful f Hf.out).le; have h2 := HD3.out.les Hf.out; omega) (by have h1 := (HD3.out.keep hb).low; have h2 := (HD3.out.keep hb).lt; omega) HF9.out).mono ?_
    rintro e w'' ⟨rfl, f', hG, hp, ho, hfu⟩
    exact ⟨rfl, f', hG.first hb, hp, ho, hfu⟩
   have HSd : Hid (∀ w', Below w3.heap.size w3 w' → w'.cell? ⟨d, 0, none⟩ = some (.int .u64 (x : Nat))) := fun w' hb => (HD3.out.keep hb).cseed
   have HSd2 : Hid (∀ w', Added w3 w' B x f k v → w'.cell? ⟨d, 0, none⟩ = some (.int .u64 (x : Nat))) := fun w' hA => by
    obtain ⟨f', hG, -⟩ := hA
    rw [World.cell?_of_block (hG.stay.block d HD3.out.lt (HD3.out.apart Hf.out))]
    exact HD3.out.cseed
   have HDw : Hid (Below w3.heap.size w3 w3.drew) := Aa w3 1
   clear HLf HB3 HT HD1
   go_upto_region 7 with fail
   go_cut [] from 33 to 42 (fun wx => Hid (Added w3 wx B x f k v))
   case first =>
    go_region_held3 (fun w' => w'.cell? ⟨d, 0, none⟩ = some (.int .u64 (x : Nat))) (first | exact HSd.out _ HDw.out | exact HSd2.out _ HAz.out) (first
     | (go_at_call 87; refine (HLf3 _ HDw.out).mono ?_; rintro e wx ⟨rfl, hb⟩; replace HDw := Ad HDw hb; clear hb)
     | (go_at_call 142; refine (HAd _ HDw.out).mono ?_; rintro e wz ⟨rfl, hA⟩; have HAz : Hid (Added w3 wz B x f k v) := hA; clear hA))
    go_wp2
    go_meet
    exact HAz
   case rest =>
   clear HDw HSd HSd2 HAd HLf3
   obtain ⟨f', hG, hp, hone, hful⟩ := hcut.out
   have hD3 := HD3.out
   have hblk : wc.heap[d]? = w3.heap[d]? := hG.stay.block d hD3.lt (hD3.apart Hf.out)
   have hc2 : wc.cell? ⟨d, 1, none⟩ = some (.int .i64 (D1.es.length : Nat)) := by rw [World.cell?_of_block hblk]; exact hD3.ccnt
   have hf2 : wc.frozen? ⟨d, 1, none⟩ = false := by have := hD3.blk; rw [← hblk] at this; simp [World.frozen?, this]
   have hPm2 : (esL (La ++ f' :: Lc)).Perm (D1.es ++ [(k, v)]) := by
    unfold Dg.es
    rw [HeL.out, Aq, Aq, Ax, Ax, List.append_assoc]
    refine List.Perm.append_left _ ?_
    refine (hp.append_right _).trans ?_
    rw [List.append_assoc, List.append_assoc]
    exact List.Perm.append_left _ List.perm_append_comm
   have hlen : (esL (La ++ f' :: Lc)).length = D1.es.length + 1 := by rw [hPm2.length_eq, List.length_append]; rfl
   have hle1 : D1.es.length < 1000000 := by have h1 := HPm.out.length_eq; have h2 := HLe.out; omega
   have HRR : Hid (∃ D', Turn w (wc.setCell ⟨d, 1, none⟩ (.int .i64 ((esL (La ++ f' :: Lc)).length : Nat))) B d x D D' ∧ (D'.g, D'.sh) = R ∧ D'.es.Perm (D.es ++ [(k, v)])) := by
    have hT := hD3.turn HeL.out hG (w'' := wc.setCell ⟨d, 1, none⟩ (.int .i64 ((esL (La ++ f' :: Lc)).length : Nat))) (by have := hD3.blk; rw [← hblk] at this; rw [Ak this]; rfl) Stay.set ?_ ?_ ?_ (by omega)
    ·refine ⟨_, HT3.out.trans hT, ?_, hPm2.trans (HPm.out.append_right _)⟩
     have e1 : f'.pt = f.pt := by unfold Lf.pt; rw [hG.l, hG.q]
     rw [← HR5.out]
     refine Prod.ext rfl ?_
     show shL _ = shL _
     unfold shL
     rw [HeL.out, List.map_append, List.map_append, List.map_cons, List.map_cons, e1]
    ·intro en he
     rcases List.mem_append.1 (hp.mem_iff.1 he) with he | he
     ·exact hD3.own f Hf.out en he
     ·rw [List.mem_singleton.1 he]
      show isIn f.pt (hsh x k) = true
      rw [HEh.out]
      exact Hi.out
    ·intro hl
     have h1 := hD3.one f Hf.out hl
     refine hone h1 ?_
     rcases Nat.lt_or_ge f.es.length 112 with h5 | h5
     ·exact h5
     ·exact absurd ⟨hl, h5⟩ HBn.out
    ·exact hful (hD3.ful f Hf.out)
   generalize hn : (esL (La ++ f' :: Lc)).length = n at hlen HRR
   generalize D1.es.length = m at hlen hc2 hle1
   have hnz : (m : Int) + 1 = (n : Nat) := by omega
   clear hG hp hone hful hD3 hblk hPm2 hn hcut hlen
   go_wp2
   go_ret
   exact ⟨rfl, HRR.out⟩
end Go.Proofs.YtmjeljldmmkcpaaGreat.Zs.Dk
