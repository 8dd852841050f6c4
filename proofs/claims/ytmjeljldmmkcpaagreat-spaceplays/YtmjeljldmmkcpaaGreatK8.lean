/- Texts that the others stand on. -/
import Derived.Test.YtmjeljldmmkcpaaGreatK7
namespace Go.Proofs.YtmjeljldmmkcpaaGreat.Dk
open Go.RowKit Go.PlainAid
structure Dg where
 g : Nat
 pb : Nat
 cap : Nat
 pl : List Nat
 L : List Lf
def shL (L : List Lf) : List Pt := L.map Lf.pt
def esL (L : List Lf) : List En := L.flatMap Lf.es
def fpL (L : List Lf) : List Nat := L.flatMap Lf.fp
def Dg.sh (D : Dg) : List Pt := shL D.L
def Dg.es (D : Dg) : List En := esL D.L
structure Dct (w : World) (B d x : Nat) (D : Dg) : Prop where
 blk : w.heap[d]? = some (.cells #[.int .u64 (x : Nat), .int .i64 (D.es.length : Nat), .slice (some ⟨D.pb, 0, none⟩) (2 ^ D.g) D.cap] 129 (0, 0))
 row : OwnP w B 123 (some ⟨D.pb, 0, none⟩) (2 ^ D.g) D.cap D.pl
 leaf : ∀ f ∈ D.L, Leaf w B x f
 shp : Shp D.g D.sh
 dir : ∀ f ∈ D.L, ∀ i, i < 2 ^ D.g → isIn f.pt i = true → D.pl[i]? = some f.a
 own : ∀ f ∈ D.L, ∀ e ∈ f.es, isIn f.pt (hsh x e.1) = true
 one : ∀ f ∈ D.L, f.l < 16 → f.ts.length = 1
 ful : ∀ f ∈ D.L, Ful f
 nod : (d :: D.pb :: fpL D.L).Nodup
 low : B ≤ d
 seed : x < 18446744073709551616
 le : D.es.length ≤ 1000000
theorem Aq (a b : List Lf) : esL (a ++ b) = esL a ++ esL b := List.flatMap_append ..
theorem Ax (f : Lf) (b : List Lf) : esL (f :: b) = f.es ++ esL b := List.flatMap_cons ..
theorem esL_one (f : Lf) : esL [f] = f.es := by rw [Ax]; exact List.append_nil _
theorem Bg (a b : List Lf) : fpL (a ++ b) = fpL a ++ fpL b := List.flatMap_append ..
theorem Bw (f : Lf) (b : List Lf) : fpL (f :: b) = f.fp ++ fpL b := List.flatMap_cons ..
theorem B6 {L : List Lf} {f : Lf} (h : f ∈ L) {j : Nat} (hj : j ∈ f.fp) : j ∈ fpL L := List.mem_flatMap.2 ⟨f, h, hj⟩
theorem mem_esL {L : List Lf} {f : Lf} (h : f ∈ L) {e : En} (he : e ∈ f.es) : e ∈ esL L := List.mem_flatMap.2 ⟨f, h, he⟩
theorem Dct.lt {w : World} {B d x : Nat} {D : Dg} (h : Dct w B d x D) : d < w.heap.size := (Array.getElem?_eq_some_iff.1 h.blk).1
theorem Dct.fplt {w : World} {B d x : Nat} {D : Dg} (h : Dct w B d x D) : ∀ k ∈ d :: D.pb :: fpL D.L, B ≤ k ∧ k < w.heap.size := by
 intro k hk
 rcases List.mem_cons.1 hk with rfl | hk
 ·exact ⟨h.low, h.lt⟩
 rcases List.mem_cons.1 hk with rfl | hk
 ·have := OwnR.lt h.row (k := D.pb) rfl
  exact ⟨this.1, this.2.1⟩
 ·obtain ⟨f, hf, hk⟩ := List.mem_flatMap.1 hk
  exact (h.leaf f hf).fplt k hk
theorem Dct.stay {w w' : World} {B d x : Nat} {D : Dg} {M : List Nat} (h : Dct w B d x D) (hs : Stay w w' M) (hd : ∀ k ∈ d :: D.pb :: fpL D.L, k ∉ M) : Dct w' B d x D :=
 ⟨by rw [hs.block d h.lt (hd _ (by simp))]; exact h.blk, OwnR.stay h.row hs (fun k hk => hd k (by cases hk; simp)), fun f hf => (h.leaf f hf).stay hs (fun k hk => hd k (List.mem_cons_of_mem _ (List.mem_cons_of_mem _ (B6 hf hk)))), h.shp, h.dir, h.own, h.one, h.ful, h.nod, h.low, h.seed, h.le⟩
theorem Dct.keep {w w' : World} {B d x : Nat} {D : Dg} (h : Dct w B d x D) (hb : Below w.heap.size w w') : Dct w' B d x D := h.stay (Stay.of_below hb []) (fun _ _ => by simp)
theorem Dct.cseed {w : World} {B d x : Nat} {D : Dg} (h : Dct w B d x D) : w.cell? ⟨d, 0, none⟩ = some (.int .u64 (x : Nat)) := by simp [World.cell?, h.blk]
theorem Dct.ccnt {w : World} {B d x : Nat} {D : Dg} (h : Dct w B d x D) : w.cell? ⟨d, 1, none⟩ = some (.int .i64 (D.es.length : Nat)) := by simp [World.cell?, h.blk]
theorem Dct.cpl {w : World} {B d x : Nat} {D : Dg} (h : Dct w B d x D) : w.cell? ⟨d, 2, none⟩ = some (.slice (some ⟨D.pb, 0, none⟩) (2 ^ D.g) D.cap) := by simp [World.cell?, h.blk]
theorem Dct.pow {w : World} {B d x : Nat} {D : Dg} (h : Dct w B d x D) : 2 ^ D.g ≤ 65536 := pow_le_16 h.shp.le
theorem Dct.les {w : World} {B d x : Nat} {D : Dg} (h : Dct w B d x D) {f : Lf} (hf : f ∈ D.L) : f.es.length ≤ 1000000 := by
 obtain ⟨a, c, e⟩ := List.append_of_mem hf
 have h1 := h.le
 unfold Dg.es at h1
 rw [e, Aq, Ax, List.length_append, List.length_append] at h1
 omega
theorem Dct.lef {w : World} {B d x : Nat} {D : Dg} (h : Dct w B d x D) {f : Lf} (hf : f ∈ D.L) : f.l ≤ D.g ∧ f.l ≤ 16 ∧ f.q < 2 ^ f.l := by
 have h1 := h.shp.lt f.pt (List.mem_map_of_mem hf)
 have h2 := h.shp.le
 simp only [Lf.pt] at h1
 omega
theorem Dct.parts {w : World} {B d x : Nat} {D : Dg} (h : Dct w B d x D) (hh : Nat) : ∃ a f c, D.L = a ++ f :: c ∧ isIn f.pt hh = true ∧ (∀ u ∈ a, isIn u.pt hh = false) ∧ (∀ u ∈ c, isIn u.pt hh = false) := by
 obtain ⟨sa, s, sc, e, h1, h2, h3⟩ := h.shp.parts hh
 unfold Dg.sh shL at e
 obtain ⟨a, l2, e1, rfl, e3⟩ := List.map_eq_append_iff.1 e
 obtain ⟨f, c, rfl, rfl, rfl⟩ := List.map_eq_cons_iff.1 e3
 exact ⟨a, f, c, e1, h1, fun u hu => h2 _ (List.mem_map_of_mem hu), fun u hu => h3 _ (List.mem_map_of_mem hu)⟩
theorem Dct.place {w : World} {B d x : Nat} {D : Dg} (h : Dct w B d x D) {f : Lf} (hf : f ∈ D.L) {hh : Nat} (hi : isIn f.pt hh = true) : D.pl[hh % 2 ^ D.g]? = some f.a ∧ hh % 2 ^ D.g < 2 ^ D.g := by
 have hlt : hh % 2 ^ D.g < 2 ^ D.g := Nat.mod_lt _ (pow_pos _)
 refine ⟨h.dir f hf _ hlt ?_, hlt⟩
 rw [isIn_low (h.lef hf).1]
 exact hi
theorem Dct.mem {w : World} {B d x : Nat} {D : Dg} (h : Dct w B d x D) {a c : List Lf} {f : Lf} {k : ByteArray} (e : D.L = a ++ f :: c) (h2 : ∀ u ∈ a, isIn u.pt (hsh x k) = false) (h3 : ∀ u ∈ c, isIn u.pt (hsh x k) = false) {v : (Option Addr)} : (k, v) ∈ D.es ↔ (k, v) ∈ f.es := by
 constructor
 ·intro hm
  obtain ⟨u, hu, hm⟩ := List.mem_flatMap.1 hm
  have ho := h.own u hu _ hm
  rw [e] at hu
  rcases List.mem_append.1 hu with hu | hu
  ·rw [h2 u hu] at ho; cases ho
  ·rcases List.mem_cons.1 hu with rfl | hu
   ·exact hm
   ·rw [h3 u hu] at ho; cases ho
 ·intro hm
  exact mem_esL (by rw [e]; simp) hm
theorem Dct.memk {w : World} {B d x : Nat} {D : Dg} (h : Dct w B d x D) {a c : List Lf} {f : Lf} {k : ByteArray} (e : D.L = a ++ f :: c) (h2 : ∀ u ∈ a, isIn u.pt (hsh x k) = false) (h3 : ∀ u ∈ c, isIn u.pt (hsh x k) = false) : k ∈ Ae D.es ↔ k ∈ Ae f.es := by
 constructor
 ·intro hm
  obtain ⟨⟨k', v⟩, hm2, rfl⟩ := List.mem_map.1 hm
  exact List.mem_map.2 ⟨_, (h.mem e h2 h3).1 hm2, rfl⟩
 ·intro hm
  obtain ⟨⟨k', v⟩, hm2, rfl⟩ := List.mem_map.1 hm
  exact List.mem_map.2 ⟨_, (h.mem e h2 h3).2 hm2, rfl⟩
set_option maxRecDepth 100000 in
theorem Len64_pow (g : Nat) (hg : g ≤ 16) (w : World) : Calls Tryz.prog 199 #[.int .u64 ((2 ^ g : Nat) : Int)] w fun e w' => e = .returned (.int .i64 ((g : Int) + 1)) ∧ w' = w := by
 rcases (by omega : g = 0 ∨ g = 1 ∨ g = 2 ∨ g = 3 ∨ g = 4 ∨ g = 5 ∨ g = 6 ∨ g = 7 ∨ g = 8 ∨ g = 9 ∨ g = 10 ∨ g = 11 ∨ g = 12 ∨ g = 13 ∨ g = 14 ∨ g = 15 ∨ g = 16) with rfl | rfl | rfl | rfl | rfl | rfl | rfl | rfl | rfl | rfl | rfl | rfl | rfl | rfl | rfl | rfl | rfl
 all_goals
  go_enter Tryz.func199, Tryz.ntmps199
  go_wp2
  go_ret
  exact ⟨by kernel_rfl, rfl⟩
theorem Len_pow (g : Nat) (hg : g ≤ 16) (w : World) : Calls Tryz.prog 160 #[.int .u64 ((2 ^ g : Nat) : Int)] w fun e w' => e = .returned (.int .i64 ((g : Int) + 1)) ∧ w' = w := by
 have H := fun w => Len64_pow g hg w
 generalize ((2 ^ g : Nat) : Int) = p at H
 go_enter Tryz.func160, Tryz.ntmps160
 go_wp2_with fail
 refine (H _).mono ?_
 rintro e w ⟨rfl, rfl⟩
 go_wp2
 go_ret
 exact ⟨rfl, rfl⟩
theorem Depth_any (B d x : Nat) (D : Dg) (w : World) (hD : Dct w B d x D) : Calls Tryz.prog 112 #[ptr d] w fun e w' => e = .returned (.int .i64 (D.g : Nat)) ∧ w' = w := by
 have hc := hD.cpl
 have hg := hD.shp.le
 have H := fun w => Len_pow D.g hg w
 have hp := hD.pow
 generalize D.g = g at hc hg H hp ⊢
 generalize 2 ^ g = p at hc H hp
 clear hD
 go_enter Tryz.func112, Tryz.ntmps112
 go_wp2_with fail
 refine (H _).mono ?_
 rintro e w ⟨rfl, rfl⟩
 go_wp2
 go_ret
 exact ⟨by go_num, rfl⟩
theorem Len_dict (B d x : Nat) (D : Dg) (w : World) (hD : Dct w B d x D) : Calls Tryz.prog 47 #[ptr d] w fun e w' => e = .returned (.int .i64 (D.es.length : Nat)) ∧ w' = w := by
 have hc := hD.ccnt
 clear hD
 go_enter Tryz.func47, Tryz.ntmps47
 go_wp2
 go_ret
 exact ⟨rfl, rfl⟩
theorem A8 (B d x : Nat) (D : Dg) (f : Lf) (h : Nat) (w : World) (hD : Dct w B d x D) (hf : f ∈ D.L) (hi : isIn f.pt h = true) (hh : h < 18446744073709551616) :
  Calls Tryz.prog 120 #[ptr d, .int .u64 h] w fun e w' => e = .returned (ptr f.a) ∧ Below w.heap.size w w' := by
 have HD : Hid (Dct w B d x D) := hD
 have hc := hD.cpl
 have hp := hD.pow
 obtain ⟨hpl, hlt⟩ := hD.place hf hi
 have hrow := OwnP.cell hD.row hpl
 have hg := hD.shp.le
 have HDe := fun q => Depth_any B d x D (w.drewN q) (hD.keep (Aa w q))
 have HLo := fun w => Low_any h D.g w hh (by omega) (by omega)
 rw [low_dep, dep_nat hg] at HLo
 generalize D.g = g at hc hg hp hlt HDe HLo hrow
 generalize h % 2 ^ g = i at hlt HLo hrow
 generalize 2 ^ g = p at hc hp hlt
 have hiz : (i : Int) < p := by omega
 clear hD hpl
 go_enter Tryz.func120, Tryz.ntmps120
 go_wp2
 go_quiet ((first | (go_at_call 112; with_reducible exact Calls.quiet_of_same (HDe _)) | (go_at_call 127; with_reducible exact Calls.quiet_of_same (HLo _))))
 go_wp2
 go_ret
 exact ⟨rfl, Aa _ _⟩
theorem val_one {es : List En} (hn : (Ae es).Nodup) {k : ByteArray} {u v : (Option Addr)} (h1 : (k, u) ∈ es) (h2 : (k, v) ∈ es) : u = v := by
 induction es with
 | nil => cases h1
 | cons e es ih =>
  replace hn : (e.1 :: Ae es).Nodup := hn
  rw [List.nodup_cons] at hn
  rcases List.mem_cons.1 h1 with e1 | g1
  ·subst e1
   rcases List.mem_cons.1 h2 with e2 | g2
   ·exact (Prod.mk.inj e2).2.symm
   ·exact absurd (List.mem_map.2 ⟨_, g2, rfl⟩) hn.1
  ·rcases List.mem_cons.1 h2 with e2 | g2
   ·subst e2
    exact absurd (List.mem_map.2 ⟨_, g1, rfl⟩) hn.1
   ·exact ih hn.2 g1 g2
theorem Of_hsh (x : Nat) (k : ByteArray) (w : World) (hks : k.size ≤ maxLen) (hx : x < 18446744073709551616) : Calls Tryz.prog 88 #[.int .u64 x, .string k] w fun e w' => e = .returned (.int .u64 (hsh x k : Nat)) ∧ w' = w := Of_any x k w hks hx
set_option maxHeartbeats 4000000 in
theorem Get_dsome (B d x : Nat) (D : Dg) (k : ByteArray) (v : (Option Addr)) (w : World) (hD : Dct w B d x D) (hks : k.size ≤ maxLen) (hk : (k, v) ∈ D.es) :
  Calls Tryz.prog 83 #[ptr d, .string k] w fun e w' => e = .returned (.tuple #[.pointer v, .bool true]) ∧ Below w.heap.size w w' := by
 obtain ⟨La, f, Lc, eL, hi, h2, h3⟩ := hD.parts (hsh x k)
 have hf : f ∈ D.L := by rw [eL]; simp
 have HK : Hid ((k, v) ∈ tsEs f.ts) := (hD.mem eL h2 h3).1 hk
 have HD : Hid (Dct w B d x D) := hD
 have hc := hD.cseed
 have HOf := fun w => Of_hsh x k w hks hD.seed
 have HLf := fun w hD => A8 B d x D f (hsh x k) w hD hf hi (Cq x k)
 have HL : Hid (Leaf w B x f) := hD.leaf f hf
 have hmx := HL.out.max
 have HKS : Hid (k.size ≤ maxLen) := hks
 generalize hm : f.ts.length = m at hmx
 have HM : Hid (f.ts.length = m) := hm
 generalize hsh x k = h at HOf HLf
 clear hD hk hks hm hi h2 h3 eL hf
 go_enter Tryz.func83, Tryz.ntmps83
 go_wp2_with fail
 refine (HOf _).mono ?_
 rintro e w ⟨rfl, rfl⟩
 go_wp2_with fail
 refine (HLf _ HD.out).mono ?_
 rintro e w1 ⟨rfl, hb1⟩
 have HB1 : Hid (Below w.heap.size w w1) := hb1
 have hc1 := (HL.out.keep hb1).tabs
 rw [HM.out] at hc1
 clear HOf HLf hb1 hc
 go_wp2
 go_loopg [7, 8, 9, 23] m (fun q tv vv bv iv wr => ∃ i : Nat, i + q = m ∧ iv = .int .i64 i ∧ Hid (k ∉ Ae (tsEs (f.ts.take i))) ∧ Hid (Below w.heap.size w wr))
 case atStart => exact ⟨0, by omega, rfl, (by simp [tsEs] : k ∉ _), HB1⟩
 case round =>
  obtain ⟨i, hi, rfl, HNo, HB⟩ := hrel
  by_cases h8 : (i : Int) < m
  ·obtain ⟨t, ht, htm⟩ := A6 (l := f.ts) (i := i) (by have := HM.out; omega)
   have hcc := (HL.out.keep HB.out).at ht
   have HTab : Hid (Tab wr B t.p t.b x t.G t.z) := (HL.out.keep HB.out).tab t htm
   by_cases hin : k ∈ (ents t.z).map (·.1)
   ·obtain ⟨⟨k0, v'⟩, hv, rfl⟩ := List.mem_map.1 hin
    have hvv : v' = v := val_one HL.out.key (List.mem_flatMap.2 ⟨t, htm, hv⟩) HK.out
    subst hvv
    have hG := Get_some _ _ _ _ _ _ k0 v' _ HTab.out HKS.out hv
    clear ht htm hin hv
    go_wp2_with fail
    refine hG.mono ?_
    rintro e w2 ⟨rfl, hb2⟩
    have HB2 := Ad HB hb2
    clear hb2 hG
    go_wp2
    go_ret2
    exact ⟨rfl, HB2.out⟩
   ·have hG := Get_none _ _ _ _ _ _ k _ HTab.out HKS.out hin
    have HNo1 : Hid (k ∉ Ae (tsEs (f.ts.take (i + 1)))) := by
     show k ∉ _
     rw [B4 ht, Am, Aj, Bv, List.mem_append]
     exact fun h => h.elim HNo.out hin
    clear ht htm hin
    go_wp2_with fail
    refine hG.mono ?_
    rintro e w2 ⟨rfl, hb2⟩
    have HB2 := Ad HB hb2
    clear hb2 hG
    go_wp2
    go_roundg (gk - 1)
    case measure => omega
    case rel => exact ⟨i + 1, by omega, by go_num, HNo1, HB2⟩
  ·exact absurd (List.mem_map.2 ⟨_, HK.out, rfl⟩) (by have := HNo.out; rw [List.take_of_length_le (by have := HM.out; omega)] at this; exact this)
set_option maxHeartbeats 4000000 in
theorem Get_dnone (B d x : Nat) (D : Dg) (k : ByteArray) (w : World) (hD : Dct w B d x D) (hks : k.size ≤ maxLen) (hk : k ∉ Ae D.es) :
  Calls Tryz.prog 83 #[ptr d, .string k] w fun e w' => e = .returned (.tuple #[.pointer none, .bool false]) ∧ Below w.heap.size w w' := by
 obtain ⟨La, f, Lc, eL, hi, h2, h3⟩ := hD.parts (hsh x k)
 have hf : f ∈ D.L := by rw [eL]; simp
 have HK : Hid (k ∉ Ae f.es) := fun h => hk ((hD.memk eL h2 h3).2 h)
 have HD : Hid (Dct w B d x D) := hD
 have hc := hD.cseed
 have HOf := fun w => Of_hsh x k w hks hD.seed
 have HLf := fun w hD => A8 B d x D f (hsh x k) w hD hf hi (Cq x k)
 have HL : Hid (Leaf w B x f) := hD.leaf f hf
 have hmx := HL.out.max
 have HKS : Hid (k.size ≤ maxLen) := hks
 generalize hm : f.ts.length = m at hmx
 have HM : Hid (f.ts.length = m) := hm
 generalize hsh x k = h at HOf HLf
 clear hD hk hks hm hi h2 h3 eL hf
 go_enter Tryz.func83, Tryz.ntmps83
 go_wp2_with fail
 refine (HOf _).mono ?_
 rintro e w ⟨rfl, rfl⟩
 go_wp2_with fail
 refine (HLf _ HD.out).mono ?_
 rintro e w1 ⟨rfl, hb1⟩
 have HB1 : Hid (Below w.heap.size w w1) := hb1
 have hc1 := (HL.out.keep hb1).tabs
 rw [HM.out] at hc1
 clear HOf HLf hb1 hc
 go_wp2
 go_loopg [7, 8, 9, 23] m (fun q tv vv bv iv wr => ∃ i : Nat, i + q = m ∧ iv = .int .i64 i ∧ Hid (Below w.heap.size w wr))
 case atStart => exact ⟨0, by omega, rfl, HB1⟩
 case round =>
  obtain ⟨i, hi, rfl, HB⟩ := hrel
  by_cases h8 : (i : Int) < m
  ·obtain ⟨t, ht, htm⟩ := A6 (l := f.ts) (i := i) (by have := HM.out; omega)
   have hcc := (HL.out.keep HB.out).at ht
   have hG := Get_none _ _ _ _ _ _ k _ ((HL.out.keep HB.out).tab t htm) HKS.out (not_in_tab HK.out htm)
   clear ht htm
   go_wp2_with fail
   refine hG.mono ?_
   rintro e w2 ⟨rfl, hb2⟩
   have HB2 := Ad HB hb2
   clear hb2 hG
   go_wp2
   go_roundg (gk - 1)
   case measure => omega
   case rel => exact ⟨i + 1, by omega, by go_num, HB2⟩
  ·go_wp2
   go_ret2
   exact ⟨rfl, HB.out⟩
def ordU (L : List Lf) (n : Nat) : List Lf := (List.range n).filterMap fun i => L.find? fun f => decide (f.q = i)
theorem Dct.same {w : World} {B d x : Nat} {D : Dg} (h : Dct w B d x D) {f u : Lf} (hf : f ∈ D.L) (hu : u ∈ D.L) {i : Nat} (h1 : isIn f.pt i = true) (h2 : isIn u.pt i = true) : f = u := by
 obtain ⟨j, hj, rfl⟩ := List.getElem_of_mem hf
 obtain ⟨k, hk, rfl⟩ := List.getElem_of_mem hu
 have hl : D.sh.length = D.L.length := List.length_map ..
 have e1 : D.sh[j]'(by omega) = D.L[j].pt := by simp [Dg.sh, shL]
 have e2 : D.sh[k]'(by omega) = D.L[k].pt := by simp [Dg.sh, shL]
 have := h.shp.one (i := j) (j := k) (by omega) (by omega) (h := i) (by rw [e1]; exact h1) (by rw [e2]; exact h2)
 subst this
 rfl
theorem Dct.self {w : World} {B d x : Nat} {D : Dg} (h : Dct w B d x D) {f : Lf} (hf : f ∈ D.L) : isIn f.pt f.q = true := isIn_self (h.lef hf).2.2
theorem Dct.find {w : World} {B d x : Nat} {D : Dg} (h : Dct w B d x D) {f : Lf} (hf : f ∈ D.L) : D.L.find? (fun u => decide (u.q = f.q)) = some f := by
 have : (D.L.find? (fun u => decide (u.q = f.q))).isSome = true := by rw [List.find?_isSome]; exact ⟨f, hf, by simp⟩
 obtain ⟨u, hu⟩ := Option.isSome_iff_exists.1 this
 have h1 := List.mem_of_find?_eq_some hu
 have h2 : u.q = f.q := by simpa using List.find?_some hu
 rw [hu]
 have := h.self h1
 rw [h2] at this
 rw [h.same h1 hf this (h.self hf)]
theorem Dct.ord_step {w : World} {B d x : Nat} {D : Dg} (h : Dct w B d x D) {f : Lf} (hf : f ∈ D.L) {i : Nat} (hi : isIn f.pt i = true) : ordU D.L (i + 1) = ordU D.L i ++ (if i = f.q then [f] else []) := by
 unfold ordU
 rw [List.range_succ, List.filterMap_append]
 congr 1
 by_cases e : i = f.q
 ·subst e
  rw [if_pos rfl]
  simp only [List.filterMap_cons, List.filterMap_nil]
  rw [h.find hf]
 ·rw [if_neg e]
  have : D.L.find? (fun u => decide (u.q = i)) = none := by
   rw [List.find?_eq_none]
   intro u hu hq
   have hq' := of_decide_eq_true hq
   have h1 := h.self hu
   rw [hq'] at h1
   have := h.same hu hf h1 hi
   subst this
   exact e hq'.symm
  simp only [List.filterMap_cons, List.filterMap_nil, this]
theorem Dct.ord_perm {w : World} {B d x : Nat} {D : Dg} (h : Dct w B d x D) : (ordU D.L (2 ^ D.g)).Perm D.L := by
 have hn : D.L.Nodup := by
  have h1 := h.shp.dis
  unfold Dg.sh shL at h1
  rw [List.pairwise_map] at h1
  unfold List.Nodup
  refine List.Pairwise.imp_of_mem ?_ h1
  intro a b ha _ hab e
  subst e
  have := hab _ (h.self ha)
  rw [h.self ha] at this
  cases this
 refine (List.perm_ext_iff_of_nodup ?_ hn).2 fun f => ?_
 ·unfold ordU List.Nodup
  rw [List.pairwise_filterMap]
  refine List.Pairwise.imp ?_ List.nodup_range
  intro i j hij u hu v hv e
  subst e
  have h1 : u.q = i := by simpa using List.find?_some hu
  have h2 : u.q = j := by simpa using List.find?_some hv
  exact hij (h1.symm.trans h2)
 ·unfold ordU
  rw [List.mem_filterMap]
  constructor
  ·rintro ⟨i, -, hi⟩
   exact List.mem_of_find?_eq_some hi
  ·intro hf
   have hl := h.lef hf
   exact ⟨f.q, List.mem_range.2 (Nat.lt_of_lt_of_le hl.2.2 (Nat.pow_le_pow_right (by decide) hl.1)), h.find hf⟩
theorem ordU_le (L : List Lf) (n : Nat) : (ordU L n).length ≤ n := by
 unfold ordU
 have := List.length_filterMap_le (fun i => L.find? fun f => decide (f.q = i)) (List.range n)
 rwa [List.length_range] at this
theorem Dct.find_leaf {w : World} {B d x : Nat} {D : Dg} (h : Dct w B d x D) (hh : Nat) : ∃ f, f ∈ D.L ∧ isIn f.pt hh = true := by
 obtain ⟨a, f, c, e, h1, -⟩ := h.parts hh
 exact ⟨f, by rw [e]; simp, h1⟩
set_option maxHeartbeats 4000000 in
theorem leaves_any (B d x : Nat) (D : Dg) (w : World) (hD : Dct w B d x D) :
  Calls Tryz.prog 108 #[ptr d] w fun e w' => Below w.heap.size w w' ∧ ∃ a n c, e = .returned (.slice a n c) ∧ OwnP w' w.heap.size 123 a n c ((ordU D.L (2 ^ D.g)).map Lf.a) := by
 have HD : Hid (Dct w B d x D) := hD
 have hc := hD.cpl
 have hp := hD.pow
 have HP : Hid (∀ i, i < 2 ^ D.g → i < 65536) := fun i hi => by omega
 generalize hm : 2 ^ D.g = m at hc hp
 have HM : Hid (2 ^ D.g = m) := hm
 have HO : Hid (OwnP w w.heap.size 123 none 0 0 ((ordU D.L 0).map Lf.a)) := OwnR.nil _ _ _ _
 clear hD hm
 go_enter Tryz.func108, Tryz.ntmps108
 go_wp2
 go_loopg [3, 4, 5, 11] m (fun q sv pv lv iv wr => ∃ (i : Nat) (a : Option Addr) (n c : Nat), i + q = m ∧ iv = .int .i64 i ∧ sv = .slice a n c ∧ Hid (OwnP wr w.heap.size 123 a n c ((ordU D.L i).map Lf.a)) ∧ Hid (Below w.heap.size w wr))
 case atStart => exact ⟨0, none, 0, 0, by omega, rfl, rfl, HO, Below.refl _ _⟩
 case round =>
  clear HO
  obtain ⟨i, a, n, c, hi, rfl, rfl, HO, HB⟩ := hrel
  by_cases h8 : (i : Int) < m
  ·obtain ⟨f, hf, hin⟩ := HD.out.find_leaf i
   have hDr := HD.out.keep HB.out
   have hpl := HD.out.dir f hf i (by rw [HM.out]; omega) hin
   have hcell := OwnP.cell hDr.row hpl
   have hown := (hDr.leaf f hf).own
   have hle := HD.out.lef hf
   have HS := HD.out.ord_step hf hin
   have HN1 : Hid (n + 1 ≤ 1000000) := by
    have h1 := OwnP.len HO.out
    have h2 := ordU_le D.L i
    rw [List.length_map] at h1
    show _ ≤ _
    omega
   have hq : i / 2 ^ f.l = 0 ↔ i = f.q := by
    rw [isIn_iff] at hin
    simp only [Lf.pt] at hin
    constructor
    ·intro h
     rw [← hin, Nat.mod_eq_of_lt]
     rcases Nat.lt_or_ge i (2 ^ f.l) with h1 | h1
     ·exact h1
     ·have := Nat.div_pos h1 (pow_pos f.l); omega
    ·intro h
     rw [Nat.div_eq_of_lt]
     have := hle.2.2
     omega
   have hle16 := hle.2.1
   generalize f.l = l at hown hq hle16
   obtain ⟨z, hz⟩ : ∃ z, i / 2 ^ l = z := ⟨_, rfl⟩
   have hzz : (i : Int) / 2 ^ l = (z : Nat) := by rw [← hz]; simp
   rw [hz] at hq
   clear hz hDr hpl hle hin hf
   have hsz := HB.out.size
   by_cases e : i = f.q
   ·rw [if_pos e, ] at HS
    have HS1 : Hid ((ordU D.L (i + 1)).map Lf.a = (ordU D.L i).map Lf.a ++ [f.a]) := by show _ = _; rw [HS, List.map_append]; rfl
    obtain rfl : z = 0 := hq.2 e
    generalize f.a = fa at hcell hown HS1
    clear HS hq e
    replace hzz : (i : Int) / 2 ^ l = 0 := hzz
    go_wp2_with (at_builtin; refine append_r rfl (.tmp 23) (.tmp 25) rfl eltL w.heap.size rfl (OwnR.keep HO.out (Ac wr _)) [ptr fa] rfl rfl (by intro j u hu; cases j with | zero => (rw [Af]; simp only [World.cell?, heap_alloc_new]; exact hu) | succ j => simp at hu) (by simp [Value.oneCell']) (by decide) (by have := HN1.out; omega) (by have := HN1.out; unfold maxLen; omega) (Nat.le_trans hsz (Ac wr _).size) ?_; intro a3 n3 c3 w3 hn3 HO3 HG3 HW3; have HB3 : Hid (Below w.heap.size w w3) := (HB.out.trans ((Ac wr _).mono hsz)).trans ((OwnR.keep HO.out (Ac wr _)).below HG3.out (Nat.le_trans hsz (Ac wr _).size)))
    go_roundg (gk - 1)
    case measure => omega
    case rel => exact ⟨i + 1, _, _, _, by omega, by go_num, rfl, by rw [HS1.out, ← hn3]; show OwnP _ _ _ _ _ _ _; unfold OwnP; rw [pcells_append]; exact HO3.out, HB3⟩
   ·rw [if_neg e, List.append_nil] at HS
    have HS1 : Hid (ordU D.L (i + 1) = ordU D.L i) := HS
    have hz0 : ((z : Int) == 0) = false := by simp; intro h; exact e (hq.1 h)
    generalize f.a = fa at hcell hown
    clear HS hq e
    go_wp2
    go_roundg (gk - 1)
    case measure => omega
    case rel => exact ⟨i + 1, _, _, _, by omega, by go_num, rfl, by rw [HS1.out]; exact HO, HB⟩
  ·have : i = m := by omega
   subst this
   go_wp2
   go_ret
   exact ⟨HB.out, _, _, _, rfl, HO.out⟩
set_option maxHeartbeats 4000000 in
theorem Keys_dict (B d x : Nat) (D : Dg) (w : World) (hD : Dct w B d x D) :
  Calls Tryz.prog 73 #[ptr d] w fun e w' => Below w.heap.size w w' ∧ ∃ a n c, e = .returned (.slice a n c) ∧ OwnS w' w.heap.size a n c (Ae (esL (ordU D.L (2 ^ D.g)))) := by
 have HD : Hid (Dct w B d x D) := hD
 have hLs := leaves_any B d x D w hD
 have HPm : Hid ((ordU D.L (2 ^ D.g)).Perm D.L) := hD.ord_perm
 have HOL := ordU_le D.L (2 ^ D.g)
 have hpw := hD.pow
 have HTot : Hid ((esL (ordU D.L (2 ^ D.g))).length ≤ 1000000) := by
  have h1 := (HPm.out.flatMap_right Lf.es).length_eq
  have h2 := hD.le
  unfold Dg.es esL at h2
  unfold esL
  show _ ≤ _
  omega
 generalize ordU D.L (2 ^ D.g) = Lo at hLs HPm HTot HOL ⊢
 clear hD
 go_enter Tryz.func73, Tryz.ntmps73
 go_wp2_with fail
 refine hLs.mono ?_
 rintro e w1 ⟨hb1, al, nl, cl, rfl, hO1⟩
 have HB1 : Hid (Below w.heap.size w w1) := hb1
 have HOl : Hid (OwnP w1 w.heap.size 123 al nl cl (Lo.map Lf.a)) := hO1
 have HNl : Hid (Lo.length = nl) := by have := OwnP.len hO1; rw [List.length_map] at this; exact this
 have hnl : nl ≤ 65536 := by have := HNl.out; omega
 have HO : Hid (OwnS w1 w1.heap.size none 0 0 (Ae (esL (Lo.take 0)))) := OwnR.nil _ _ _ _
 clear hb1 hO1 hLs HOL hpw
 go_wp2
 go_loopg [3, 5, 9] nl (fun q sv lv iv wr => ∃ (i : Nat) (a : Option Addr) (n c : Nat), i + q = nl ∧ iv = .int .i64 i ∧ sv = .slice a n c ∧ Hid (OwnS wr w1.heap.size a n c (Ae (esL (Lo.take i)))) ∧ Hid (Below w1.heap.size w1 wr))
 case atStart => exact ⟨0, none, 0, 0, by omega, rfl, rfl, HO, Below.refl _ _⟩
 case round =>
  clear HO
  obtain ⟨i, a, n, c, hi, rfl, rfl, HO, HB⟩ := hrel
  by_cases h8 : (i : Int) < nl
  ·obtain ⟨f, hf, hfm⟩ := A6 (l := Lo) (i := i) (by have := HNl.out; omega)
   have hfD : f ∈ D.L := HPm.out.mem_iff.1 hfm
   have hBw : Below w.heap.size w wr := HB1.out.trans (HB.out.mono HB1.out.size)
   have hDr := HD.out.keep hBw
   obtain ⟨gl, rfl, -⟩ := OwnR.at HOl.out (by omega)
   have hcell := OwnP.cell (OwnR.keep HOl.out HB.out) (j := i) (p := f.a) (by rw [List.getElem?_map, hf]; rfl)
   have hK := keys_any B x f wr (hDr.leaf f hfD) (hDr.les hfD)
   have HS : Hid (Ae (esL (Lo.take (i + 1))) = Ae (esL (Lo.take i)) ++ Ae f.es) := by show _ = _; rw [B4 hf, Aq, Aj, esL_one]
   have HLe : Hid ((Ae (esL (Lo.take (i + 1)))).length ≤ 1000000) := by
    have h1 := HTot.out
    rw [← List.take_append_drop (i + 1) Lo, Aq, List.length_append] at h1
    show _ ≤ _
    rw [List.length_map]
    omega
   rw [HS.out] at HLe
   generalize Ae f.es = ks at hK HS HLe
   generalize f.a = fa at hcell hK
   clear hf hfm hfD hBw hDr
   go_wp2_with fail
   refine hK.mono ?_
   rintro e w2 ⟨hb2, a1, n1, c1, rfl, hO1⟩
   have HO1 : Hid (OwnS w2 wr.heap.size a1 n1 c1 ks) := hO1
   have HB2 := Ad HB hb2
   have HO0 : Hid (OwnS w2 w1.heap.size a n c (Ae (esL (Lo.take i)))) := OwnR.keep HO.out hb2
   have HN1 : Hid (n + n1 ≤ 1000000) := by
    have h1 := OwnS.len HO.out
    have h2 := OwnS.len hO1
    have h3 := HLe.out
    rw [List.length_append] at h3
    show _ ≤ _
    omega
   clear hb2 hO1 hK
   go_wp2_with (at_builtin; refine append_p rfl (.tmp 13) (.tmp 15) rfl eltS w1.heap.size rfl HO0.out rfl HO1.out.rd scells_one (by have := HN1.out; omega) (by have := HN1.out; unfold maxLen; omega) HB2.out.size ?_; intro a3 n3 c3 w3 hn3 HO3 HG3; have HB3 : Hid (Below w1.heap.size w1 w3) := HB2.out.trans (HO0.out.below HG3.out HB2.out.size))
   go_roundg (gk - 1)
   case measure => omega
   case rel => exact ⟨i + 1, _, _, _, by omega, by go_num, rfl, by rw [HS.out, ← hn3]; rw [← Cw] at HO3; exact HO3, HB3⟩
  ·have HT : Hid (Lo.take i = Lo) := by show _ = _; rw [List.take_of_length_le (by have := HNl.out; omega)]
   rw [HT.out] at HO
   go_wp2
   go_ret
   exact ⟨HB1.out.trans (HB.out.mono HB1.out.size), _, _, _, rfl, HO.out.low HB1.out.size⟩
def bkt (x g : Nat) (ks : List ByteArray) (c : Nat) : List ByteArray := ks.filter fun k => decide (hsh x k % 2 ^ g = c % 2 ^ g)
theorem bkt_append (x g : Nat) (a b : List ByteArray) (c : Nat) : bkt x g (a ++ b) c = bkt x g a c ++ bkt x g b c := List.filter_append ..
theorem Dct.bkt_leaf {w : World} {B d x : Nat} {D : Dg} (h : Dct w B d x D) {La Lc : List Lf} {f : Lf} {c : Nat} (e : D.L = La ++ f :: Lc) (h2 : ∀ u ∈ La, isIn u.pt c = false) (h3 : ∀ u ∈ Lc, isIn u.pt c = false) : bkt x D.g (Ae D.es) c = bkt x D.g (Ae f.es) c := by
 have hno : ∀ (M : List Lf), (∀ u ∈ M, u ∈ D.L) → (∀ u ∈ M, isIn u.pt c = false) → bkt x D.g (Ae (esL M)) c = [] := by
  intro M hM hc
  unfold bkt
  rw [List.filter_eq_nil_iff]
  intro k hk hd
  have hd' := of_decide_eq_true hd
  obtain ⟨e, he, rfl⟩ := List.mem_map.1 hk
  obtain ⟨u, hu, he⟩ := List.mem_flatMap.1 he
  have h1 := h.own u (hM u hu) e he
  rw [← isIn_low (h.lef (hM u hu)).1, hd', isIn_low (h.lef (hM u hu)).1, hc u hu] at h1
  cases h1
 unfold Dg.es
 rw [e, Aq, Ax, Aj, Aj, bkt_append, bkt_append, hno La (fun u hu => by rw [e]; simp [hu]) h2, hno Lc (fun u hu => by rw [e]; simp [hu]) h3, List.nil_append, List.append_nil]
set_option maxHeartbeats 4000000 in
theorem Bucket_dict (B d x : Nat) (D : Dg) (c : Nat) (w : World) (hD : Dct w B d x D) (hc : c < 18446744073709551616) :
  Calls Tryz.prog 110 #[ptr d, .int .u64 c] w fun e w' => Below w.heap.size w w' ∧ ∃ a n cp, e = .returned (.slice a n cp) ∧ OwnS w' w.heap.size a n cp (bkt x D.g (Ae D.es) c) := by
 obtain ⟨La, f, Lc, eL, hin, h2, h3⟩ := hD.parts c
 rw [hD.bkt_leaf eL h2 h3]
 have hf : f ∈ D.L := by rw [eL]; simp
 have HD : Hid (Dct w B d x D) := hD
 have HL : Hid (Leaf w B x f) := hD.leaf f hf
 have HDe := fun w hD => Depth_any B d x D w hD
 have hg := hD.shp.le
 have HBu := fun w => Bucket_any c D.g w hc (by omega) (by omega)
 rw [low_dep, dep_nat hg] at HBu
 have HK := fun w hL => keys_any B x f w hL (hD.les hf)
 obtain ⟨hpl, hlt⟩ := hD.place hf hin
 have hp := hD.pow
 have hcp := hD.cpl
 have hrow := OwnP.cell hD.row hpl
 have HSd : Hid (∀ w', Below w.heap.size w w' → w'.cell? ⟨d, 0, none⟩ = some (.int .u64 (x : Nat))) := fun w' hb => (HD.out.keep hb).cseed
 have HLe : Hid ((Ae f.es).length ≤ 1000000) := by have := hD.les hf; show _ ≤ _; rw [List.length_map]; exact this
 have HSz : Hid (∀ k ∈ Ae f.es, k.size ≤ maxLen) := by
  show ∀ k ∈ Ae f.es, k.size ≤ maxLen
  intro k hk
  obtain ⟨e, he, rfl⟩ := List.mem_map.1 hk
  obtain ⟨t, ht, he⟩ := List.mem_flatMap.1 he
  exact (HL.out.tab t ht).siz e he
 have hx := hD.seed
 have HLow := fun h w (hh : h < 18446744073709551616) => Low_any h D.g w hh (by omega) (by omega)
 generalize Ae f.es = ks at HK HLe HSz ⊢
 have HBk : Hid (∀ i k, ks[i]? = some k → bkt x D.g (ks.take (i + 1)) c = bkt x D.g (ks.take i) c ++ (if hsh x k % 2 ^ D.g = c % 2 ^ D.g then [k] else [])) := by
  intro i k hk
  rw [B4 hk, bkt_append]
  congr 1
  unfold bkt
  by_cases e : hsh x k % 2 ^ D.g = c % 2 ^ D.g
  ·rw [if_pos e, List.filter_cons_of_pos (by simpa using e)]; rfl
  ·rw [if_neg e, List.filter_cons_of_neg (by simpa using e)]; rfl
 have HOd := fun h => low_dep h D.g
 rw [dep_nat hg] at HOd
 simp only [HOd] at HLow
 clear HOd
 obtain ⟨g, hgg⟩ : ∃ g, D.g = g := ⟨_, rfl⟩
 rw [hgg] at hg HBu hpl hlt hp hcp hrow HLow HBk ⊢
 generalize f.a = fa at HK hrow
 have hmod : ∀ h, h % 2 ^ g < 65536 := fun h => Nat.lt_of_lt_of_le (Nat.mod_lt _ (pow_pos _)) hp
 obtain ⟨pl, hplc⟩ : ∃ pl, c % 2 ^ g = pl := ⟨_, rfl⟩
 rw [hplc] at HBu hlt hrow HBk
 have HPL : Hid (c % 2 ^ g = pl) := hplc
 obtain ⟨P, hP⟩ : ∃ P, 2 ^ g = P := ⟨_, rfl⟩
 rw [hP] at hlt hcp hp
 have hplz : (pl : Int) < P := by omega
 have HDe2 : ∀ w, Dct w B d x D → Calls Tryz.prog 112 #[ptr d] w fun e w' => e = .returned (.int .i64 (g : Nat)) ∧ w' = w := fun w hD => by rw [← hgg]; exact HDe w hD
 clear HDe hgg hD hpl hin h2 h3 eL hf hplc hP
 go_enter Tryz.func110, Tryz.ntmps110
 go_wp2_with fail
 refine (HDe2 _ HD.out).mono ?_
 rintro e w ⟨rfl, rfl⟩
 go_wp2_with fail
 refine (HBu _).mono ?_
 rintro e w ⟨rfl, rfl⟩
 go_wp2_with fail
 refine (HK _ HL.out).mono ?_
 rintro e w1 ⟨hb1, ak, nk, ck, rfl, hO1⟩
 have HB1 : Hid (Below w.heap.size w w1) := hb1
 have HOk : Hid (OwnS w1 w.heap.size ak nk ck ks) := hO1
 have HNk : Hid (ks.length = nk) := OwnS.len hO1
 have hnk : nk ≤ 1000000 := by have := HNk.out; have := HLe.out; omega
 have HO : Hid (OwnS w1 w1.heap.size none 0 0 (bkt x g (ks.take 0) c)) := OwnR.nil _ _ _ _
 clear hb1 hO1 HK HDe2 HBu hcp hrow
 go_wp2
 go_loopg [7, 9, 24] nk (fun q sv kv iv wr => ∃ (i : Nat) (a : Option Addr) (n cp : Nat), i + q = nk ∧ iv = .int .i64 i ∧ sv = .slice a n cp ∧ Hid (OwnS wr w1.heap.size a n cp (bkt x g (ks.take i) c)) ∧ Hid (Below w1.heap.size w1 wr))
 case atStart => exact ⟨0, none, 0, 0, by omega, rfl, rfl, HO, Below.refl _ _⟩
 case round =>
  clear HO
  obtain ⟨i, a, n, cp, hi, rfl, rfl, HO, HB⟩ := hrel
  by_cases h8 : (i : Int) < nk
  ·obtain ⟨k, hk, hkm⟩ := A6 (l := ks) (i := i) (by have := HNk.out; omega)
   obtain ⟨gk', hgk, hcell⟩ := OwnS.cell (OwnR.keep HOk.out HB.out) (j := i) (by omega)
   subst hgk
   rw [List.getD_eq_getElem?_getD, hk] at hcell
   simp only [Option.getD_some] at hcell
   have hsd := HSd.out wr (HB1.out.trans (HB.out.mono HB1.out.size))
   have hOf := fun w => Of_hsh x k w (HSz.out k hkm) hx
   have hLw := fun w => HLow (hsh x k) w (Cq x k)
   have hmd := hmod (hsh x k)
   have HS := HBk.out i k hk
   have HN1 : Hid (n + 1 ≤ 2000000) := by
    have h1 := OwnS.len HO.out
    have h2 : (bkt x g (ks.take i) c).length ≤ (ks.take i).length := List.length_filter_le _ _
    rw [List.length_take] at h2
    show _ ≤ _
    omega
   generalize hsh x k = h at hOf hLw hmd HS
   have hsz := HB.out.size
   clear hk hkm
   by_cases e : h % 2 ^ g = pl
   ·rw [if_pos e] at HS
    have HS1 : Hid (bkt x g (ks.take (i + 1)) c = bkt x g (ks.take i) c ++ [k]) := HS
    rw [e] at hLw
    clear HS e hmd
    go_wp2_with fail
    refine (hOf _).mono ?_
    rintro e wr ⟨rfl, rfl⟩
    go_wp2_with fail
    refine (hLw _).mono ?_
    rintro e wr ⟨rfl, rfl⟩
    go_wp2_with (at_builtin; refine append_r rfl (.tmp 38) (.tmp 40) rfl eltS w1.heap.size rfl (OwnR.keep HO.out (Ac wr _)) [.string k] rfl rfl (by intro j u hu; cases j with | zero => (rw [Af]; simp only [World.cell?, heap_alloc_new]; exact hu) | succ j => simp at hu) (by simp [Value.oneCell']) (by decide) (by have := HN1.out; omega) (by have := HN1.out; unfold maxLen; omega) (Nat.le_trans hsz (Ac wr _).size) ?_; intro a3 n3 c3 w3 hn3 HO3 HG3 HW3; have HB3 : Hid (Below w1.heap.size w1 w3) := (HB.out.trans ((Ac wr _).mono hsz)).trans ((OwnR.keep HO.out (Ac wr _)).below HG3.out (Nat.le_trans hsz (Ac wr _).size)))
    go_roundg (gk - 1)
    case measure => omega
    case rel => exact ⟨i + 1, _, _, _, by omega, by go_num, rfl, by rw [HS1.out, ← hn3]; rw [show By (bkt x g (ks.take i) c) ++ [.string k] = By (bkt x g (ks.take i) c ++ [k]) by rw [Cw]; rfl] at HO3; exact HO3, HB3⟩
   ·rw [if_neg e, List.append_nil] at HS
    have HS1 : Hid (bkt x g (ks.take (i + 1)) c = bkt x g (ks.take i) c) := HS
    generalize h % 2 ^ g = y at hLw e hmd
    have hne : ((y : Int) == (pl : Int)) = false := by simp; omega
    clear HS e
    go_wp2_with fail
    refine (hOf _).mono ?_
    rintro e wr ⟨rfl, rfl⟩
    go_wp2_with fail
    refine (hLw _).mono ?_
    rintro e wr ⟨rfl, rfl⟩
    go_wp2
    go_roundg (gk - 1)
    case measure => omega
    case rel => exact ⟨i + 1, _, _, _, by omega, by go_num, rfl, by rw [HS1.out]; exact HO, HB⟩
  ·have HT : Hid (ks.take i = ks) := by show _ = _; rw [List.take_of_length_le (by have := HNk.out; omega)]
   rw [HT.out] at HO
   go_wp2
   go_ret
   exact ⟨HB1.out.trans (HB.out.mono HB1.out.size), _, _, _, rfl, HO.out.low HB1.out.size⟩
end Go.Proofs.YtmjeljldmmkcpaaGreat.Dk
