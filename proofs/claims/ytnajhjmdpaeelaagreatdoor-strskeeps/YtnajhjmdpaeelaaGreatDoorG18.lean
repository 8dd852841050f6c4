/- Texts that the others stand on. -/
import Derived.Test.YtnajhjmdpaeelaaGreatDoorG17
namespace Go.Proofs.YtnajhjmdpaeelaaGreatDoor.Zs.Dk
open Go.RowKit Go.PlainAid
/-- What is in a dict: its depth; where its row of places lies, and whither they lead; its leaves. -/
structure Dg where
  g : Nat
  pb : Nat
  cap : Nat
  pl : List Nat
  L : List Lf
def shL (L : List Lf) : List Pt := L.map Lf.pt
def esL (L : List Lf) : List En := L.flatMap Lf.es
def fpL (L : List Lf) : List Nat := L.flatMap Lf.fp
def Dg.sh (D : Dg) : List Pt := shL D.L
def Dg.es (D : Dg) : List En := esL D.L
/-- A dict in memory. -/
structure Dct (w : World) (B d x : Nat) (D : Dg) : Prop where
  blk : w.heap[d]? = some (.cells #[.int .u64 (x : Nat), .int .i64 (D.es.length : Nat), .slice (some ⟨D.pb, 0, none⟩) (2 ^ D.g) D.cap] 121 (0, 0))
  row : OwnP w B 115 (some ⟨D.pb, 0, none⟩) (2 ^ D.g) D.cap D.pl
  leaf : ∀ f ∈ D.L, Leaf w B x f
  shp : Shp D.g D.sh
  dir : ∀ f ∈ D.L, ∀ i, i < 2 ^ D.g → isIn f.pt i = true → D.pl[i]? = some f.a
  own : ∀ f ∈ D.L, ∀ e ∈ f.es, isIn f.pt (hsh x e.1) = true
  one : ∀ f ∈ D.L, f.l < 16 → f.ts.length = 1
  ful : ∀ f ∈ D.L, Ful f
  nod : (d :: D.pb :: fpL D.L).Nodup
  low : B ≤ d
  seed : x < 18446744073709551616
  le : D.es.length ≤ 1000000
theorem esL_append (a b : List Lf) : esL (a ++ b) = esL a ++ esL b := List.flatMap_append ..
theorem esL_cons (f : Lf) (b : List Lf) : esL (f :: b) = f.es ++ esL b := List.flatMap_cons ..
theorem esL_one (f : Lf) : esL [f] = f.es := by rw [esL_cons]; exact List.append_nil _
theorem fpL_append (a b : List Lf) : fpL (a ++ b) = fpL a ++ fpL b := List.flatMap_append ..
theorem fpL_cons (f : Lf) (b : List Lf) : fpL (f :: b) = f.fp ++ fpL b := List.flatMap_cons ..
theorem mem_fpL {L : List Lf} {f : Lf} (h : f ∈ L) {j : Nat} (hj : j ∈ f.fp) : j ∈ fpL L := List.mem_flatMap.2 ⟨f, h, hj⟩
theorem mem_esL {L : List Lf} {f : Lf} (h : f ∈ L) {e : En} (he : e ∈ f.es) : e ∈ esL L := List.mem_flatMap.2 ⟨f, h, he⟩
theorem Dct.lt {w : World} {B d x : Nat} {D : Dg} (h : Dct w B d x D) : d < w.heap.size := (Array.getElem?_eq_some_iff.1 h.blk).1
theorem Dct.fplt {w : World} {B d x : Nat} {D : Dg} (h : Dct w B d x D) : ∀ k ∈ d :: D.pb :: fpL D.L, B ≤ k ∧ k < w.heap.size := by
  intro k hk
  rcases List.mem_cons.1 hk with rfl | hk
  · exact ⟨h.low, h.lt⟩
  rcases List.mem_cons.1 hk with rfl | hk
  · have := OwnR.lt h.row (k := D.pb) rfl
    exact ⟨this.1, this.2.1⟩
  · obtain ⟨f, hf, hk⟩ := List.mem_flatMap.1 hk
    exact (h.leaf f hf).fplt k hk
theorem Dct.stay {w w' : World} {B d x : Nat} {D : Dg} {M : List Nat} (h : Dct w B d x D) (hs : Stay w w' M) (hd : ∀ k ∈ d :: D.pb :: fpL D.L, k ∉ M) : Dct w' B d x D :=
  ⟨by rw [hs.block d h.lt (hd _ (by simp))]; exact h.blk, OwnR.stay h.row hs (fun k hk => hd k (by cases hk; simp)), fun f hf => (h.leaf f hf).stay hs (fun k hk => hd k (List.mem_cons_of_mem _ (List.mem_cons_of_mem _ (mem_fpL hf hk)))), h.shp, h.dir, h.own, h.one, h.ful, h.nod, h.low, h.seed, h.le⟩
theorem Dct.keep {w w' : World} {B d x : Nat} {D : Dg} (h : Dct w B d x D) (hb : Below w.heap.size w w') : Dct w' B d x D := h.stay (Stay.of_below hb []) (fun _ _ => by simp)
theorem Dct.cseed {w : World} {B d x : Nat} {D : Dg} (h : Dct w B d x D) : w.cell? ⟨d, 0, none⟩ = some (.int .u64 (x : Nat)) := by simp [World.cell?, h.blk]
theorem Dct.ccnt {w : World} {B d x : Nat} {D : Dg} (h : Dct w B d x D) : w.cell? ⟨d, 1, none⟩ = some (.int .i64 (D.es.length : Nat)) := by simp [World.cell?, h.blk]
theorem Dct.cpl {w : World} {B d x : Nat} {D : Dg} (h : Dct w B d x D) : w.cell? ⟨d, 2, none⟩ = some (.slice (some ⟨D.pb, 0, none⟩) (2 ^ D.g) D.cap) := by simp [World.cell?, h.blk]
theorem Dct.frozen {w : World} {B d x : Nat} {D : Dg} (h : Dct w B d x D) (o : Nat) : w.frozen? ⟨d, o, none⟩ = false := by simp [World.frozen?, h.blk]
theorem Dct.len {w : World} {B d x : Nat} {D : Dg} (h : Dct w B d x D) : D.pl.length = 2 ^ D.g := OwnP.len h.row
theorem Dct.pow {w : World} {B d x : Nat} {D : Dg} (h : Dct w B d x D) : 2 ^ D.g ≤ 65536 := pow_le_16 h.shp.le
theorem Dct.les {w : World} {B d x : Nat} {D : Dg} (h : Dct w B d x D) {f : Lf} (hf : f ∈ D.L) : f.es.length ≤ 1000000 := by
  obtain ⟨a, c, e⟩ := List.append_of_mem hf
  have h1 := h.le
  unfold Dg.es at h1
  rw [e, esL_append, esL_cons, List.length_append, List.length_append] at h1
  omega
theorem Dct.lef {w : World} {B d x : Nat} {D : Dg} (h : Dct w B d x D) {f : Lf} (hf : f ∈ D.L) : f.l ≤ D.g ∧ f.l ≤ 16 ∧ f.q < 2 ^ f.l := by
  have h1 := h.shp.lt f.pt (List.mem_map_of_mem hf)
  have h2 := h.shp.le
  simp only [Lf.pt] at h1
  omega
/-- The leaf of a hash, and that its keys belong nowhere else. -/
theorem Dct.parts {w : World} {B d x : Nat} {D : Dg} (h : Dct w B d x D) (hh : Nat) : ∃ a f c, D.L = a ++ f :: c ∧ isIn f.pt hh = true ∧ (∀ u ∈ a, isIn u.pt hh = false) ∧ (∀ u ∈ c, isIn u.pt hh = false) := by
  obtain ⟨sa, s, sc, e, h1, h2, h3⟩ := h.shp.parts hh
  unfold Dg.sh shL at e
  obtain ⟨a, l2, e1, rfl, e3⟩ := List.map_eq_append_iff.1 e
  obtain ⟨f, c, rfl, rfl, rfl⟩ := List.map_eq_cons_iff.1 e3
  exact ⟨a, f, c, e1, h1, fun u hu => h2 _ (List.mem_map_of_mem hu), fun u hu => h3 _ (List.mem_map_of_mem hu)⟩
theorem Dct.place {w : World} {B d x : Nat} {D : Dg} (h : Dct w B d x D) {f : Lf} (hf : f ∈ D.L) {hh : Nat} (hi : isIn f.pt hh = true) : D.pl[hh % 2 ^ D.g]? = some f.a ∧ hh % 2 ^ D.g < 2 ^ D.g := by
  have hlt : hh % 2 ^ D.g < 2 ^ D.g := Nat.mod_lt _ (pow_pos _)
  refine ⟨h.dir f hf _ hlt ?_, hlt⟩
  rw [isIn_low (h.lef hf).1]
  exact hi
/-- A key that is there is in the leaf of its hash. -/
theorem Dct.mem {w : World} {B d x : Nat} {D : Dg} (h : Dct w B d x D) {a c : List Lf} {f : Lf} {k : ByteArray} (e : D.L = a ++ f :: c) (h2 : ∀ u ∈ a, isIn u.pt (hsh x k) = false) (h3 : ∀ u ∈ c, isIn u.pt (hsh x k) = false) {v : Int} : (k, v) ∈ D.es ↔ (k, v) ∈ f.es := by
  constructor
  · intro hm
    obtain ⟨u, hu, hm⟩ := List.mem_flatMap.1 hm
    have ho := h.own u hu _ hm
    rw [e] at hu
    rcases List.mem_append.1 hu with hu | hu
    · rw [h2 u hu] at ho; cases ho
    · rcases List.mem_cons.1 hu with rfl | hu
      · exact hm
      · rw [h3 u hu] at ho; cases ho
  · intro hm
    exact mem_esL (by rw [e]; simp) hm
theorem Dct.memk {w : World} {B d x : Nat} {D : Dg} (h : Dct w B d x D) {a c : List Lf} {f : Lf} {k : ByteArray} (e : D.L = a ++ f :: c) (h2 : ∀ u ∈ a, isIn u.pt (hsh x k) = false) (h3 : ∀ u ∈ c, isIn u.pt (hsh x k) = false) : k ∈ keysOf D.es ↔ k ∈ keysOf f.es := by
  constructor
  · intro hm
    obtain ⟨⟨k', v⟩, hm2, rfl⟩ := List.mem_map.1 hm
    exact List.mem_map.2 ⟨_, (h.mem e h2 h3).1 hm2, rfl⟩
  · intro hm
    obtain ⟨⟨k', v⟩, hm2, rfl⟩ := List.mem_map.1 hm
    exact List.mem_map.2 ⟨_, (h.mem e h2 h3).2 hm2, rfl⟩
set_option maxRecDepth 100000 in
theorem Len64_pow (g : Nat) (hg : g ≤ 16) (w : World) : Calls Tryz.prog 216 #[.int .u64 ((2 ^ g : Nat) : Int)] w fun e w' => e = .returned (.int .i64 ((g : Int) + 1)) ∧ w' = w := by
  rcases (by omega : g = 0 ∨ g = 1 ∨ g = 2 ∨ g = 3 ∨ g = 4 ∨ g = 5 ∨ g = 6 ∨ g = 7 ∨ g = 8 ∨ g = 9 ∨ g = 10 ∨ g = 11 ∨ g = 12 ∨ g = 13 ∨ g = 14 ∨ g = 15 ∨ g = 16) with rfl | rfl | rfl | rfl | rfl | rfl | rfl | rfl | rfl | rfl | rfl | rfl | rfl | rfl | rfl | rfl | rfl
  all_goals
    go_enter Tryz.func216, Tryz.ntmps216
    go_wp2
    go_ret
    exact ⟨by kernel_rfl, rfl⟩
theorem Len_pow (g : Nat) (hg : g ≤ 16) (w : World) : Calls Tryz.prog 192 #[.int .u64 ((2 ^ g : Nat) : Int)] w fun e w' => e = .returned (.int .i64 ((g : Int) + 1)) ∧ w' = w := by
  have H := fun w => Len64_pow g hg w
  generalize ((2 ^ g : Nat) : Int) = p at H
  go_enter Tryz.func192, Tryz.ntmps192
  go_wp2_with fail
  refine (H _).mono ?_
  rintro e w ⟨rfl, rfl⟩
  go_wp2
  go_ret
  exact ⟨rfl, rfl⟩
theorem Depth_any (B d x : Nat) (D : Dg) (w : World) (hD : Dct w B d x D) : Calls Tryz.prog 180 #[ptr d] w fun e w' => e = .returned (.int .i64 (D.g : Nat)) ∧ w' = w := by
  have hc := hD.cpl
  have hg := hD.shp.le
  have H := fun w => Len_pow D.g hg w
  have hp := hD.pow
  generalize D.g = g at hc hg H hp ⊢
  generalize 2 ^ g = p at hc H hp
  clear hD
  go_enter Tryz.func180, Tryz.ntmps180
  go_wp2_with fail
  refine (H _).mono ?_
  rintro e w ⟨rfl, rfl⟩
  go_wp2
  go_ret
  exact ⟨by go_num, rfl⟩
theorem leafOf_any (B d x : Nat) (D : Dg) (f : Lf) (h : Nat) (w : World) (hD : Dct w B d x D) (hf : f ∈ D.L) (hi : isIn f.pt h = true) (hh : h < 18446744073709551616) :
    Calls Tryz.prog 134 #[ptr d, .int .u64 h] w fun e w' => e = .returned (ptr f.a) ∧ Below w.heap.size w w' := by
  have HD : Hid (Dct w B d x D) := hD
  have hc := hD.cpl
  have hp := hD.pow
  obtain ⟨hpl, hlt⟩ := hD.place hf hi
  have hrow := OwnP.cell hD.row hpl
  have hg := hD.shp.le
  have HDe := fun q => Depth_any B d x D (w.drewN q) (hD.keep (below_drewN w q))
  have HLo := fun w => Low_any h D.g w hh (by omega) (by omega)
  rw [low_dep, dep_nat hg] at HLo
  generalize D.g = g at hc hg hp hlt HDe HLo hrow
  generalize h % 2 ^ g = i at hlt HLo hrow
  generalize 2 ^ g = p at hc hp hlt
  have hiz : (i : Int) < p := by omega
  clear hD hpl
  go_enter Tryz.func134, Tryz.ntmps134
  go_wp2
  go_quiet ((first | (go_at_call 180; with_reducible exact Calls.quiet_of_same (HDe _)) | (go_at_call 166; with_reducible exact Calls.quiet_of_same (HLo _))))
  go_wp2
  go_ret
  exact ⟨rfl, below_drewN _ _⟩
theorem val_one {es : List En} (hn : (keysOf es).Nodup) {k : ByteArray} {u v : Int} (h1 : (k, u) ∈ es) (h2 : (k, v) ∈ es) : u = v := by
  induction es with
  | nil => cases h1
  | cons e es ih =>
    replace hn : (e.1 :: keysOf es).Nodup := hn
    rw [List.nodup_cons] at hn
    rcases List.mem_cons.1 h1 with e1 | g1
    · subst e1
      rcases List.mem_cons.1 h2 with e2 | g2
      · exact (Prod.mk.inj e2).2.symm
      · exact absurd (List.mem_map.2 ⟨_, g2, rfl⟩) hn.1
    · rcases List.mem_cons.1 h2 with e2 | g2
      · subst e2
        exact absurd (List.mem_map.2 ⟨_, g1, rfl⟩) hn.1
      · exact ih hn.2 g1 g2
theorem Of_hsh (x : Nat) (k : ByteArray) (w : World) (hks : k.size ≤ maxLen) (hx : x < 18446744073709551616) : Calls Tryz.prog 122 #[.int .u64 x, .string k] w fun e w' => e = .returned (.int .u64 (hsh x k : Nat)) ∧ w' = w := Of_any x k w hks hx
set_option maxHeartbeats 4000000 in
theorem Get_dsome (B d x : Nat) (D : Dg) (k : ByteArray) (v : Int) (w : World) (hD : Dct w B d x D) (hks : k.size ≤ maxLen) (hk : (k, v) ∈ D.es) :
    Calls Tryz.prog 84 #[ptr d, .string k] w fun e w' => e = .returned (.tuple #[.int .u64 v, .bool true]) ∧ Below w.heap.size w w' := by
  obtain ⟨La, f, Lc, eL, hi, h2, h3⟩ := hD.parts (hsh x k)
  have hf : f ∈ D.L := by rw [eL]; simp
  have HK : Hid ((k, v) ∈ tsEs f.ts) := (hD.mem eL h2 h3).1 hk
  have HD : Hid (Dct w B d x D) := hD
  have hc := hD.cseed
  have HOf := fun w => Of_hsh x k w hks hD.seed
  have HLf := fun w hD => leafOf_any B d x D f (hsh x k) w hD hf hi (hsh_lt x k)
  have HL : Hid (Leaf w B x f) := hD.leaf f hf
  have hmx := HL.out.max
  have HKS : Hid (k.size ≤ maxLen) := hks
  generalize hm : f.ts.length = m at hmx
  have HM : Hid (f.ts.length = m) := hm
  generalize hsh x k = h at HOf HLf
  clear hD hk hks hm hi h2 h3 eL hf
  go_enter Tryz.func84, Tryz.ntmps84
  go_wp2_with fail
  refine (HOf _).mono ?_
  rintro e w ⟨rfl, rfl⟩
  go_wp2_with fail
  refine (HLf _ HD.out).mono ?_
  rintro e w1 ⟨rfl, hb1⟩
  have HB1 : Hid (Below w.heap.size w w1) := hb1
  have hc1 := (HL.out.keep hb1).tabs
  rw [HM.out] at hc1
  clear HOf HLf hb1 hc
  go_wp2
  go_loopg [7, 8, 9, 23] m (fun q tv vv bv iv wr => ∃ i : Nat, i + q = m ∧ iv = .int .i64 i ∧ Hid (k ∉ keysOf (tsEs (f.ts.take i))) ∧ Hid (Below w.heap.size w wr))
  case atStart => exact ⟨0, by omega, rfl, (by simp [tsEs] : k ∉ _), HB1⟩
  case round =>
    obtain ⟨i, hi, rfl, HNo, HB⟩ := hrel
    by_cases h8 : (i : Int) < m
    · obtain ⟨t, ht, htm⟩ := get_of_lt (l := f.ts) (i := i) (by have := HM.out; omega)
      have hcc := (HL.out.keep HB.out).at ht
      have HTab : Hid (Tab wr B t.p t.b x t.G t.z) := (HL.out.keep HB.out).tab t htm
      by_cases hin : k ∈ (ents t.z).map (·.1)
      · obtain ⟨⟨k0, v'⟩, hv, rfl⟩ := List.mem_map.1 hin
        have hvv : v' = v := val_one HL.out.key (List.mem_flatMap.2 ⟨t, htm, hv⟩) HK.out
        subst hvv
        have hG := Get_some _ _ _ _ _ _ k0 v' _ HTab.out HKS.out hv
        clear ht htm hin hv
        go_wp2_with fail
        refine hG.mono ?_
        rintro e w2 ⟨rfl, hb2⟩
        have HB2 := step_below HB hb2
        clear hb2 hG
        go_wp2
        go_ret2
        exact ⟨rfl, HB2.out⟩
      · have hG := Get_none _ _ _ _ _ _ k _ HTab.out HKS.out hin
        have HNo1 : Hid (k ∉ keysOf (tsEs (f.ts.take (i + 1)))) := by
          show k ∉ _
          rw [take_more ht, tsEs_append, keysOf_append, tsEs_one, List.mem_append]
          exact fun h => h.elim HNo.out hin
        clear ht htm hin
        go_wp2_with fail
        refine hG.mono ?_
        rintro e w2 ⟨rfl, hb2⟩
        have HB2 := step_below HB hb2
        clear hb2 hG
        go_wp2
        go_roundg (gk - 1)
        case measure => omega
        case rel => exact ⟨i + 1, by omega, by go_num, HNo1, HB2⟩
    · exact absurd (List.mem_map.2 ⟨_, HK.out, rfl⟩) (by have := HNo.out; rw [List.take_of_length_le (by have := HM.out; omega)] at this; exact this)
set_option maxHeartbeats 4000000 in
theorem Get_dnone (B d x : Nat) (D : Dg) (k : ByteArray) (w : World) (hD : Dct w B d x D) (hks : k.size ≤ maxLen) (hk : k ∉ keysOf D.es) :
    Calls Tryz.prog 84 #[ptr d, .string k] w fun e w' => e = .returned (.tuple #[.int .u64 0, .bool false]) ∧ Below w.heap.size w w' := by
  obtain ⟨La, f, Lc, eL, hi, h2, h3⟩ := hD.parts (hsh x k)
  have hf : f ∈ D.L := by rw [eL]; simp
  have HK : Hid (k ∉ keysOf f.es) := fun h => hk ((hD.memk eL h2 h3).2 h)
  have HD : Hid (Dct w B d x D) := hD
  have hc := hD.cseed
  have HOf := fun w => Of_hsh x k w hks hD.seed
  have HLf := fun w hD => leafOf_any B d x D f (hsh x k) w hD hf hi (hsh_lt x k)
  have HL : Hid (Leaf w B x f) := hD.leaf f hf
  have hmx := HL.out.max
  have HKS : Hid (k.size ≤ maxLen) := hks
  generalize hm : f.ts.length = m at hmx
  have HM : Hid (f.ts.length = m) := hm
  generalize hsh x k = h at HOf HLf
  clear hD hk hks hm hi h2 h3 eL hf
  go_enter Tryz.func84, Tryz.ntmps84
  go_wp2_with fail
  refine (HOf _).mono ?_
  rintro e w ⟨rfl, rfl⟩
  go_wp2_with fail
  refine (HLf _ HD.out).mono ?_
  rintro e w1 ⟨rfl, hb1⟩
  have HB1 : Hid (Below w.heap.size w w1) := hb1
  have hc1 := (HL.out.keep hb1).tabs
  rw [HM.out] at hc1
  clear HOf HLf hb1 hc
  go_wp2
  go_loopg [7, 8, 9, 23] m (fun q tv vv bv iv wr => ∃ i : Nat, i + q = m ∧ iv = .int .i64 i ∧ Hid (Below w.heap.size w wr))
  case atStart => exact ⟨0, by omega, rfl, HB1⟩
  case round =>
    obtain ⟨i, hi, rfl, HB⟩ := hrel
    by_cases h8 : (i : Int) < m
    · obtain ⟨t, ht, htm⟩ := get_of_lt (l := f.ts) (i := i) (by have := HM.out; omega)
      have hcc := (HL.out.keep HB.out).at ht
      have hG := Get_none _ _ _ _ _ _ k _ ((HL.out.keep HB.out).tab t htm) HKS.out (not_in_tab HK.out htm)
      clear ht htm
      go_wp2_with fail
      refine hG.mono ?_
      rintro e w2 ⟨rfl, hb2⟩
      have HB2 := step_below HB hb2
      clear hb2 hG
      go_wp2
      go_roundg (gk - 1)
      case measure => omega
      case rel => exact ⟨i + 1, by omega, by go_num, HB2⟩
    · go_wp2
      go_ret2
      exact ⟨rfl, HB.out⟩
/-- The leaves in the order of their places. -/
def ordU (L : List Lf) (n : Nat) : List Lf := (List.range n).filterMap fun i => L.find? fun f => decide (f.q = i)
theorem Dct.same {w : World} {B d x : Nat} {D : Dg} (h : Dct w B d x D) {f u : Lf} (hf : f ∈ D.L) (hu : u ∈ D.L) {i : Nat} (h1 : isIn f.pt i = true) (h2 : isIn u.pt i = true) : f = u := by
  obtain ⟨j, hj, rfl⟩ := List.getElem_of_mem hf
  obtain ⟨k, hk, rfl⟩ := List.getElem_of_mem hu
  have hl : D.sh.length = D.L.length := List.length_map ..
  have e1 : D.sh[j]'(by omega) = D.L[j].pt := by simp [Dg.sh, shL]
  have e2 : D.sh[k]'(by omega) = D.L[k].pt := by simp [Dg.sh, shL]
  have := h.shp.one (i := j) (j := k) (by omega) (by omega) (h := i) (by rw [e1]; exact h1) (by rw [e2]; exact h2)
  subst this
  rfl
theorem Dct.self {w : World} {B d x : Nat} {D : Dg} (h : Dct w B d x D) {f : Lf} (hf : f ∈ D.L) : isIn f.pt f.q = true := isIn_self (h.lef hf).2.2
theorem Dct.find {w : World} {B d x : Nat} {D : Dg} (h : Dct w B d x D) {f : Lf} (hf : f ∈ D.L) : D.L.find? (fun u => decide (u.q = f.q)) = some f := by
  have : (D.L.find? (fun u => decide (u.q = f.q))).isSome = true := by rw [List.find?_isSome]; exact ⟨f, hf, by simp⟩
  obtain ⟨u, hu⟩ := Option.isSome_iff_exists.1 this
  have h1 := List.mem_of_find?_eq_some hu
  have h2 : u.q = f.q := by simpa using List.find?_some hu
  rw [hu]
  have := h.self h1
  rw [h2] at this
  rw [h.same h1 hf this (h.self hf)]
theorem Dct.ord_perm {w : World} {B d x : Nat} {D : Dg} (h : Dct w B d x D) : (ordU D.L (2 ^ D.g)).Perm D.L := by
  have hn : D.L.Nodup := by
    have h1 := h.shp.dis
    unfold Dg.sh shL at h1
    rw [List.pairwise_map] at h1
    unfold List.Nodup
    refine List.Pairwise.imp_of_mem ?_ h1
    intro a b ha _ hab e
    subst e
    have := hab _ (h.self ha)
    rw [h.self ha] at this
    cases this
  refine (List.perm_ext_iff_of_nodup ?_ hn).2 fun f => ?_
  · unfold ordU List.Nodup
    rw [List.pairwise_filterMap]
    refine List.Pairwise.imp ?_ List.nodup_range
    intro i j hij u hu v hv e
    subst e
    have h1 : u.q = i := by simpa using List.find?_some hu
    have h2 : u.q = j := by simpa using List.find?_some hv
    exact hij (h1.symm.trans h2)
  · unfold ordU
    rw [List.mem_filterMap]
    constructor
    · rintro ⟨i, -, hi⟩
      exact List.mem_of_find?_eq_some hi
    · intro hf
      have hl := h.lef hf
      exact ⟨f.q, List.mem_range.2 (Nat.lt_of_lt_of_le hl.2.2 (Nat.pow_le_pow_right (by decide) hl.1)), h.find hf⟩
/-- The blocks of a dict. -/
def Dg.fp (D : Dg) (d : Nat) : List Nat := d :: D.pb :: fpL D.L
/-- What becomes of a dict: it lies in what was its own, and in new memory. -/
structure Turn (w w' : World) (B d x : Nat) (D D' : Dg) : Prop where
  dct : Dct w' B d x D'
  stay : Stay w w' (D.fp d)
  fps : ∀ j ∈ D'.fp d, j ∈ D.fp d ∨ w.heap.size ≤ j
theorem Turn.first {w w0 w' : World} {B d x : Nat} {D D' : Dg} (h : Turn w w' B d x D D') (hb : Below w0.heap.size w0 w) : Turn w0 w' B d x D D' :=
  ⟨h.dct, (Stay.of_below hb _).trans h.stay (fun _ hi => .inl hi), fun j hj => (h.fps j hj).imp id (fun k => Nat.le_trans hb.size k)⟩
theorem Turn.trans {w w1 w2 : World} {B d x : Nat} {D D1 D2 : Dg} (h : Turn w w1 B d x D D1) (k : Turn w1 w2 B d x D1 D2) : Turn w w2 B d x D D2 :=
  ⟨k.dct, h.stay.trans k.stay (fun i hi => h.fps i hi), fun j hj => (k.fps j hj).elim (h.fps j) (fun e => .inr (Nat.le_trans h.stay.size e))⟩
theorem Turn.below {w w' : World} {B d x : Nat} {D D' : Dg} (h : Turn w w' B d x D D') (hD : Dct w B d x D) : Below B w w' :=
  h.stay.below (fun i hi => (hD.fplt i hi).1) (by have := hD.low; have := hD.lt; omega)
theorem Turn.refl {w w' : World} {B d x : Nat} {D : Dg} (h : Dct w B d x D) (hb : Below w.heap.size w w') : Turn w w' B d x D D := ⟨h.keep hb, Stay.of_below hb _, fun _ hj => .inl hj⟩
theorem Dct.turn {w w' w'' : World} {B d x : Nat} {D : Dg} {La Lc : List Lf} {f f' : Lf} (h : Dct w B d x D) (e : D.L = La ++ f :: Lc) (hG : Grew w w' B x f f')
    (hb : w''.heap[d]? = some (.cells #[.int .u64 (x : Nat), .int .i64 ((esL (La ++ f' :: Lc)).length : Nat), .slice (some ⟨D.pb, 0, none⟩) (2 ^ D.g) D.cap] 121 (0, 0))) (hs : Stay w' w'' [d])
    (hown : ∀ e ∈ f'.es, isIn f.pt (hsh x e.1) = true) (hone : f.l < 16 → f'.ts.length = 1) (hful : Ful f') (hle : (esL (La ++ f' :: Lc)).length ≤ 1000000) :
    Turn w w'' B d x D { D with L := La ++ f' :: Lc } := by
  have hpt : f'.pt = f.pt := by unfold Lf.pt; rw [hG.l, hG.q]
  have hnod := h.nod
  rw [e, fpL_append, fpL_cons] at hnod
  have hlt := h.fplt
  rw [e, fpL_append, fpL_cons] at hlt
  obtain ⟨n1, n2⟩ := List.nodup_cons.1 hnod
  obtain ⟨n3, n4⟩ := List.nodup_cons.1 n2
  rw [List.nodup_append, List.nodup_append] at n4
  obtain ⟨n5, ⟨n6, n7, n8⟩, n9⟩ := n4
  simp only [List.mem_cons, List.mem_append, not_or] at n1 n3
  have hd' : ∀ k ∈ f'.fp, k ≠ d := fun k hk e => by
    subst e
    rcases hG.fps k hk with h1 | h1
    · exact n1.2.2.1 h1
    · have := h.lt; omega
  have hp' : ∀ k ∈ f'.fp, k ≠ D.pb := fun k hk e => by
    subst e
    rcases hG.fps _ hk with h1 | h1
    · exact n3.2.1 h1
    · have := hlt D.pb (by simp); omega
  have hS : Stay w w'' (d :: f.fp) := (hG.stay.mono (fun i hi => List.mem_cons_of_mem _ hi)).trans (hs.mono (M' := [d]) (fun i hi => hi)) (fun i hi => .inl (by simp at hi; simp [hi]))
  have hleafs : ∀ u ∈ La ++ f' :: Lc, Leaf w'' B x u := by
    intro u hu
    rcases List.mem_append.1 hu with hu | hu
    · refine (h.leaf u (by rw [e]; simp [hu])).stay hS (fun k hk => ?_)
      simp only [List.mem_cons, not_or]
      exact ⟨fun e => n1.2.1 (e ▸ mem_fpL hu hk), fun hk2 => n9 k (mem_fpL hu hk) k (by simp [hk2]) rfl⟩
    · rcases List.mem_cons.1 hu with rfl | hu
      · exact hG.leaf.stay hs (fun k hk => by simpa using hd' k hk)
      · refine (h.leaf u (by rw [e]; simp [hu])).stay hS (fun k hk => ?_)
        simp only [List.mem_cons, not_or]
        exact ⟨fun e => n1.2.2.2 (e ▸ mem_fpL hu hk), fun hk2 => n8 k hk2 k (mem_fpL hu hk) rfl⟩
  refine ⟨⟨hb, ?_, hleafs, ?_, ?_, ?_, ?_, ?_, ?_, h.low, h.seed, hle⟩, ?_, ?_⟩
  · refine OwnR.stay h.row hS (fun k hk => ?_)
    cases hk
    simp only [List.mem_cons, not_or]
    exact ⟨fun e => n1.1 e.symm, n3.2.1⟩
  · show Shp D.g (shL (La ++ f' :: Lc))
    have := h.shp
    unfold Dg.sh shL at this
    rw [e, List.map_append, List.map_cons] at this
    unfold shL
    rw [List.map_append, List.map_cons, hpt]
    exact this
  · intro u hu i hi hin
    rcases List.mem_append.1 hu with hu | hu
    · exact h.dir u (by rw [e]; simp [hu]) i hi hin
    · rcases List.mem_cons.1 hu with rfl | hu
      · rw [hG.a]
        rw [hpt] at hin
        exact h.dir f (by rw [e]; simp) i hi hin
      · exact h.dir u (by rw [e]; simp [hu]) i hi hin
  · intro u hu
    rcases List.mem_append.1 hu with hu | hu
    · exact h.own u (by rw [e]; simp [hu])
    · rcases List.mem_cons.1 hu with rfl | hu
      · rw [hpt]; exact hown
      · exact h.own u (by rw [e]; simp [hu])
  · intro u hu
    rcases List.mem_append.1 hu with hu | hu
    · exact h.one u (by rw [e]; simp [hu])
    · rcases List.mem_cons.1 hu with rfl | hu
      · rw [hG.l]; exact hone
      · exact h.one u (by rw [e]; simp [hu])
  · intro u hu
    rcases List.mem_append.1 hu with hu | hu
    · exact h.ful u (by rw [e]; simp [hu])
    · rcases List.mem_cons.1 hu with rfl | hu
      · exact hful
      · exact h.ful u (by rw [e]; simp [hu])
  · show (d :: D.pb :: fpL (La ++ f' :: Lc)).Nodup
    rw [fpL_append, fpL_cons, List.nodup_cons, List.nodup_cons, List.nodup_append, List.nodup_append]
    refine ⟨?_, ?_, n5, ⟨hG.leaf.nod, n7, ?_⟩, ?_⟩
    · simp only [List.mem_cons, List.mem_append, not_or]
      exact ⟨n1.1, n1.2.1, fun hk => hd' d hk rfl, n1.2.2.2⟩
    · simp only [List.mem_append, not_or]
      exact ⟨n3.1, fun hk => hp' _ hk rfl, n3.2.2⟩
    · intro a ha b hb2 e2
      subst e2
      rcases hG.fps a ha with h1 | h1
      · exact n8 a h1 a hb2 rfl
      · have := hlt a (by simp [hb2]); omega
    · intro a ha b hb2 e2
      subst e2
      rcases List.mem_append.1 hb2 with hb2 | hb2
      · rcases hG.fps a hb2 with h1 | h1
        · exact n9 a ha a (by simp [h1]) rfl
        · have := hlt a (by simp [ha]); omega
      · exact n9 a ha a (by simp [hb2]) rfl
  · refine hS.mono (fun i hi => ?_)
    unfold Dg.fp
    rw [e, fpL_append, fpL_cons]
    rcases List.mem_cons.1 hi with rfl | hi
    · simp
    · simp [hi]
  · intro j hj
    change j ∈ d :: D.pb :: fpL (La ++ f' :: Lc) at hj
    unfold Dg.fp
    rw [e]
    rw [fpL_append, fpL_cons] at hj ⊢
    simp only [List.mem_cons, List.mem_append] at hj ⊢
    rcases hj with hj | hj | hj | hj | hj
    · exact .inl (.inl hj)
    · exact .inl (.inr (.inl hj))
    · exact .inl (.inr (.inr (.inl hj)))
    · exact (hG.fps j hj).imp (fun h1 => .inr (.inr (.inr (.inl h1)))) id
    · exact .inl (.inr (.inr (.inr (.inr hj))))
/-- A leaf that newLeaf made. -/
theorem Leaf.made {w1 w2 : World} {B x l a p b G : Nat} {z : List Cl} (q : Nat) (hT : Tab w1 B p b x G z) (hb : Below w1.heap.size w1 w2) (ha : w1.heap.size < a)
    (hblk : w2.heap[a]? = some (.cells #[.int .i64 (l : Nat), .slice (some ⟨w1.heap.size, 0, none⟩) 1 1] 160 (0, 0))) (hrow : OwnP w2 w1.heap.size 117 (some ⟨w1.heap.size, 0, none⟩) 1 1 [p]) (hB : B ≤ w1.heap.size) :
    Leaf w2 B x ⟨l, q, a, w1.heap.size, 1, [⟨p, b, G, z⟩]⟩ := by
  have h1 := hT.top.lt
  have h2 := hT.row.lt
  have h3 := hT.top.ne hT.row
  refine ⟨hblk, OwnR.low hrow hB, ?_, by show B ≤ a; omega, ?_, ?_, Nat.one_pos⟩
  · intro t ht
    cases List.mem_singleton.1 ht
    exact hT.keep hb
  · show [a, w1.heap.size, p, b].Nodup
    simp only [List.nodup_cons, List.mem_cons, List.not_mem_nil, or_false, not_or, not_false_eq_true, List.nodup_nil, and_true]
    omega
  · show (keysOf (tsEs [(⟨p, b, G, z⟩ : Tb)])).Nodup
    rw [tsEs_one]
    exact hT.inv.nod
set_option maxHeartbeats 4000000 in
theorem New_dict (x : Nat) (w : World) (hx : x < 18446744073709551616) :
    Calls Tryz.prog 22 #[.int .u64 x] w fun e w' => Below w.heap.size w w' ∧ ∃ d D, e = .returned (ptr d) ∧ Dct w' w.heap.size d x D ∧ D.g = 0 ∧ D.sh = [(0, 0)] ∧ D.es = [] := by
  have HN := New_tab x w hx
  have HX : Hid (x < 18446744073709551616) := hx
  clear hx
  go_enter Tryz.func22, Tryz.ntmps22
  go_wp2_with fail
  refine HN.mono ?_
  rintro e w1 ⟨hb1, p, b, rfl, hT1, -⟩
  have HB1 : Hid (Below w.heap.size w w1) := hb1
  have HT1 : Hid (Tab w1 w.heap.size p b x 1 (news0 1)) := hT1
  have hL := newLeaf_any 0 p w1
  clear hb1 hT1 HN
  go_wp2_with fail
  refine hL.mono ?_
  rintro e w2 ⟨hb2, a, rfl, ha, hal, hblk, hrow⟩
  have HB2 := step_below HB1 hb2
  have HL2 : Hid (Leaf w2 w.heap.size x ⟨0, 0, a, w1.heap.size, 1, [⟨p, b, 1, news0 1⟩]⟩) := Leaf.made 0 HT1.out hb2 ha hblk hrow HB1.out.size
  clear hb2 ha hal hblk hrow hL
  obtain ⟨w3, hw3⟩ : ∃ w3, w2.alloc (.cells #[ptr a] 115) = w3 := ⟨_, rfl⟩
  have HB3' : Hid (Below w2.heap.size w2 w3) := by show Below _ _ _; rw [← hw3]; exact alloc_below w2 _
  have HS3 : Hid (w3.heap.size = w2.heap.size + 1) := by show _ = _; rw [← hw3]; exact size_alloc w2 _
  have HO3 : Hid (OwnP w3 w2.heap.size 115 (some ⟨w2.heap.size, 0, none⟩) 1 1 [a]) := by
    show OwnP _ _ _ _ _ _ _
    rw [← hw3]
    exact ⟨rfl, .inr ⟨w2.heap.size, 1, #[ptr a], rfl, Nat.le_refl _, heap_alloc_new w2 _, Nat.le_refl _, by decide, rfl, rfl⟩⟩
  obtain ⟨w4, hw4⟩ : ∃ w4, w3.alloc (.cells #[.int .u64 (x : Nat), .int .i64 0, .slice (some ⟨w2.heap.size, 0, none⟩) 1 1] 121) = w4 := ⟨_, rfl⟩
  have HB4' : Hid (Below w3.heap.size w3 w4) := by show Below _ _ _; rw [← hw4]; exact alloc_below w3 _
  have HK4 : Hid (w4.heap[w3.heap.size]? = some (.cells #[.int .u64 (x : Nat), .int .i64 0, .slice (some ⟨w2.heap.size, 0, none⟩) 1 1] 121 (0, 0))) := by show _ = _; rw [← hw4]; exact heap_alloc_new w3 _
  have HB3 := step_below HB2 HB3'.out
  have HB4 := step_below HB3 HB4'.out
  go_wp2
  go_ret
  refine ⟨HB4.out, w3.heap.size, ⟨0, w2.heap.size, 1, [a], [⟨0, 0, a, w1.heap.size, 1, [⟨p, b, 1, news0 1⟩]⟩]⟩, rfl, ?_, rfl, rfl, ?_⟩
  · have hL4 : Leaf w4 w.heap.size x ⟨0, 0, a, w1.heap.size, 1, [⟨p, b, 1, news0 1⟩]⟩ := (HL2.out.keep HB3'.out).keep HB4'.out
    have hes : esL [(⟨0, 0, a, w1.heap.size, 1, [⟨p, b, 1, news0 1⟩]⟩ : Lf)] = [] := by rw [esL_one]; show tsEs _ = []; rw [tsEs_one]; exact ents_news0 1
    have hfl := HL2.out.fplt
    have hs2 := HB2.out.size
    have hs3 := HS3.out
    refine ⟨?_, OwnR.low (OwnR.keep HO3.out HB4'.out) HB2.out.size, ?_, Shp.new, ?_, ?_, ?_, ?_, ?_, HB3.out.size, HX.out, ?_⟩
    · show w4.heap[w3.heap.size]? = some (.cells #[.int .u64 (x : Nat), .int .i64 ((esL [(⟨0, 0, a, w1.heap.size, 1, [⟨p, b, 1, news0 1⟩]⟩ : Lf)]).length : Nat), .slice (some ⟨w2.heap.size, 0, none⟩) (2 ^ 0) 1] 121 (0, 0))
      rw [hes]
      exact HK4.out
    · intro f hf
      cases List.mem_singleton.1 hf
      exact hL4
    · intro f hf i hi _
      cases List.mem_singleton.1 hf
      obtain rfl : i = 0 := by simp at hi; exact hi
      rfl
    · intro f hf e he
      have : e ∈ esL [(⟨0, 0, a, w1.heap.size, 1, [⟨p, b, 1, news0 1⟩]⟩ : Lf)] := mem_esL hf he
      rw [hes] at this
      cases this
    · intro f hf _
      cases List.mem_singleton.1 hf
      rfl
    · intro f hf
      cases List.mem_singleton.1 hf
      exact .inl rfl
    · show (w3.heap.size :: w2.heap.size :: fpL [(⟨0, 0, a, w1.heap.size, 1, [⟨p, b, 1, news0 1⟩]⟩ : Lf)]).Nodup
      rw [fpL_cons, List.nodup_cons, List.nodup_cons]
      have e0 : fpL ([] : List Lf) = [] := rfl
      rw [e0, List.append_nil]
      refine ⟨?_, ?_, HL2.out.nod⟩
      · rw [List.mem_cons, not_or]
        exact ⟨by omega, fun h => by have := (hfl _ h).2; omega⟩
      · exact fun h => by have := (hfl _ h).2; omega
    · show (esL _).length ≤ _
      rw [hes]
      decide
  · show esL _ = []
    rw [esL_one]; show tsEs _ = []; rw [tsEs_one]; exact ents_news0 1
theorem Dct.siz {w : World} {B d x : Nat} {D : Dg} (h : Dct w B d x D) : ∀ e ∈ D.es, e.1.size ≤ maxLen := by
  intro e he
  obtain ⟨f, hf, he⟩ := List.mem_flatMap.1 he
  obtain ⟨t, ht, he⟩ := List.mem_flatMap.1 he
  exact ((h.leaf f hf).tab t ht).siz e he
/-- The dict's own block is none of a leaf's. -/
theorem Dct.apart {w : World} {B d x : Nat} {D : Dg} (h : Dct w B d x D) {f : Lf} (hf : f ∈ D.L) : d ∉ f.fp := by
  intro hd
  have := (List.nodup_cons.1 h.nod).1
  exact this (List.mem_cons_of_mem _ (mem_fpL hf hd))
set_option maxHeartbeats 4000000 in
theorem PutD_old (B d x : Nat) (D : Dg) (k : ByteArray) (u v : Int) (w : World) (hD : Dct w B d x D) (hk : (k, u) ∈ D.es) :
    Calls Tryz.prog 85 #[ptr d, .string k, .int .u64 v] w fun e w' => e = .returned (.int .i64 0) ∧ ∃ D', Turn w w' B d x D D' ∧ D'.g = D.g ∧ D'.sh = D.sh ∧ ∃ A C, D.es = A ++ (k, u) :: C ∧ D'.es = A ++ (k, v) :: C := by
  have hks := hD.siz _ hk
  obtain ⟨La, f, Lc, eL, hi, h2, h3⟩ := hD.parts (hsh x k)
  have hf : f ∈ D.L := by rw [eL]; simp
  have hkf : (k, u) ∈ f.es := (hD.mem eL h2 h3).1 hk
  have HKf : Hid ((k, u) ∈ f.es) := hkf
  have HD : Hid (Dct w B d x D) := hD
  have HeL : Hid (D.L = La ++ f :: Lc) := eL
  have Hf : Hid (f ∈ D.L) := hf
  have hc := hD.cseed
  have HOf := fun w => Of_hsh x k w hks hD.seed
  have HLf := fun w hD => leafOf_any B d x D f (hsh x k) w hD hf hi (hsh_lt x k)
  have HHo := fun w hL => holder_yes B x f k w hL hks (List.mem_map.2 ⟨_, hkf, rfl⟩)
  have HKS : Hid (k.size ≤ maxLen) := hks
  generalize hsh x k = h at HOf HLf
  clear hD hk hks hi h2 h3 eL hf hkf
  go_enter Tryz.func85, Tryz.ntmps85
  go_wp2_with fail
  refine (HOf _).mono ?_
  rintro e w ⟨rfl, rfl⟩
  go_wp2_with fail
  refine (HLf _ HD.out).mono ?_
  rintro e w1 ⟨rfl, hb1⟩
  have HB1 : Hid (Below w.heap.size w w1) := hb1
  have hHo := HHo _ ((HD.out.keep hb1).leaf f Hf.out)
  clear HOf HLf HHo hb1
  go_wp2_with fail
  refine hHo.mono ?_
  rintro e w2 ⟨hb2, t, rfl, htm, hk2⟩
  have HB2 := step_below HB1 hb2
  have HL2 : Hid (Leaf w2 B x f) := (HD.out.keep HB2.out).leaf f Hf.out
  have Htm : Hid (t ∈ f.ts) := htm
  have hP := Put_old _ _ _ _ _ _ k v _ (HL2.out.tab t htm) HKS.out hk2
  clear hb2 htm hk2 hHo HB1
  go_wp2_with fail
  refine hP.mono ?_
  rintro e w3 ⟨rfl, hm3, z3, hT3, a3, c3, u3, hz, hz3⟩
  have HR : Hid (∃ D', Turn w w3 B d x D D' ∧ D'.g = D.g ∧ D'.sh = D.sh ∧ ∃ A C, D.es = A ++ (k, u) :: C ∧ D'.es = A ++ (k, v) :: C) := by
    obtain ⟨pre, post, ets⟩ := List.append_of_mem Htm.out
    have hu : u3 = u := by
      refine val_one HL2.out.key (k := k) ?_ HKf.out
      refine List.mem_flatMap.2 ⟨t, Htm.out, ?_⟩
      show _ ∈ ents t.z
      rw [hz]; simp
    subst hu
    have e1 : f.es = (tsEs pre ++ a3) ++ (k, u3) :: (c3 ++ tsEs post) := by
      unfold Lf.es
      rw [ets, tsEs_append, tsEs_cons]
      unfold Tb.es
      rw [hz]
      simp
    have e2 : tsEs (pre ++ ⟨t.p, t.b, t.G, z3⟩ :: post) = (tsEs pre ++ a3) ++ (k, v) :: (c3 ++ tsEs post) := by
      rw [tsEs_append, tsEs_cons]
      unfold Tb.es
      rw [hz3]
      simp
    have hkn : (keysOf (tsEs (pre ++ ⟨t.p, t.b, t.G, z3⟩ :: post))).Nodup := by
      have := HL2.out.key
      rw [e1] at this
      rw [e2]
      simpa [keysOf] using this
    obtain ⟨k1, k2, k3⟩ := HL2.out.turn ets (Stay.of_moves hm3) hT3 (.inl rfl) hkn
    have hG : Grew w2 w3 B x f { f with ts := pre ++ ⟨t.p, t.b, t.G, z3⟩ :: post } := ⟨k1, k3, k2, rfl, rfl, rfl⟩
    have hD2 := HD.out.keep HB2.out
    have el : (esL (La ++ { f with ts := pre ++ ⟨t.p, t.b, t.G, z3⟩ :: post } :: Lc)).length = D.es.length := by
      unfold Dg.es
      rw [HeL.out, esL_append, esL_append, esL_cons, esL_cons, e1]
      simp only [Lf.es, e2]
      simp
    have hT := hD2.turn HeL.out hG (w'' := w3) (by rw [el, k3.block d hD2.lt (hD2.apart Hf.out)]; exact hD2.blk) (Stay.of_below (Below.refl _ _) _) ?_ ?_ ?_ (by rw [el]; exact hD2.le)
    · refine ⟨_, hT.first HB2.out, rfl, ?_, esL La ++ (tsEs pre ++ a3), (c3 ++ tsEs post) ++ esL Lc, ?_, ?_⟩
      · unfold Dg.sh shL
        rw [HeL.out, List.map_append, List.map_append]
        rfl
      · unfold Dg.es
        rw [HeL.out, esL_append, esL_cons, e1]
        simp
      · show esL _ = _
        rw [esL_append, esL_cons]
        show esL La ++ (tsEs _ ++ _) = _
        rw [e2]
        simp
    · intro e he
      have he2 : e ∈ tsEs (pre ++ ⟨t.p, t.b, t.G, z3⟩ :: post) := he
      rw [e2] at he2
      have ho := HD.out.own f Hf.out
      rw [e1] at ho
      rcases List.mem_append.1 he2 with he2 | he2
      · exact ho e (List.mem_append.2 (.inl he2))
      · rcases List.mem_cons.1 he2 with rfl | he2
        · exact ho (k, u3) (by simp)
        · exact ho e (List.mem_append.2 (.inr (List.mem_cons_of_mem _ he2)))
    · intro hl
      have := HD.out.one f Hf.out hl
      rw [ets] at this
      simp at this ⊢
      omega
    · rcases HD.out.ful f Hf.out with h1 | h1
      · refine .inl ?_
        rw [ets] at h1
        simp at h1 ⊢
        omega
      · refine .inr fun y hy => ?_
        rcases List.mem_append.1 hy with hy | hy
        · exact h1 y (by rw [ets]; simp [hy])
        · rcases List.mem_cons.1 hy with rfl | hy
          · show 0 < (ents z3).length
            rw [hz3, List.length_append, List.length_cons]; omega
          · exact h1 y (by rw [ets]; simp [hy])
  clear hm3 hT3 hz hz3 hP
  go_wp2
  go_ret
  exact ⟨rfl, HR.out⟩
theorem bset_nat (h l : Nat) (hl : l < 16) : bset h (l : Int) = decide (h / 2 ^ l % 2 = 1) := by
  unfold bset
  rw [decide_eq_true (by omega : (0 : Int) ≤ l ∧ (l : Int) < 64), Int.toNat_natCast, Bool.true_and]
/-- Whither a place leads behind a split. -/
def plS (D : Dg) (l q a0 a1 i : Nat) : Option Nat := if i % 2 ^ l = q then some (if i / 2 ^ l % 2 = 0 then a0 else a1) else D.pl[i % 2 ^ D.g]?
structure Splitted (w wF : World) (B d x : Nat) (D : Dg) (f f0 f1 : Lf) (pb1 cap1 : Nat) (pl1 : List Nat) : Prop where
  blk : wF.heap[d]? = some (.cells #[.int .u64 (x : Nat), .int .i64 (D.es.length : Nat), .slice (some ⟨pb1, 0, none⟩) (2 ^ max D.g (f.l + 1)) cap1] 121 (0, 0))
  row : OwnP wF B 115 (some ⟨pb1, 0, none⟩) (2 ^ max D.g (f.l + 1)) cap1 pl1
  pls : ∀ i, i < 2 ^ max D.g (f.l + 1) → pl1[i]? = plS D f.l f.q f0.a f1.a i
  leaf0 : Leaf wF B x f0
  leaf1 : Leaf wF B x f1
  pt0 : f0.pt = (f.l + 1, f.q)
  pt1 : f1.pt = (f.l + 1, f.q + 2 ^ f.l)
  es0 : f0.es.Perm (zerosOf x f.l f.es)
  es1 : f1.es.Perm (onesOf x f.l f.es)
  one0 : f0.ts.length = 1
  one1 : f1.ts.length = 1
  new : ∀ j ∈ f0.fp ++ f1.fp, w.heap.size ≤ j
  nod : (f0.fp ++ f1.fp).Nodup
  pb : pb1 = D.pb ∨ w.heap.size ≤ pb1
  pbn : pb1 ∉ f0.fp ++ f1.fp
  stay : Stay w wF [d, D.pb]
theorem split_perm (x l : Nat) (es : List En) : (zerosOf x l es ++ onesOf x l es).Perm es := by
  unfold zerosOf onesOf
  exact List.perm_append_comm.trans (List.filter_append_perm _ es)
theorem Dct.split {w wF : World} {B d x : Nat} {D : Dg} {La Lc : List Lf} {f f0 f1 : Lf} {pb1 cap1 : Nat} {pl1 : List Nat} (h : Dct w B d x D) (e : D.L = La ++ f :: Lc) (hl : f.l < 16) (S : Splitted w wF B d x D f f0 f1 pb1 cap1 pl1) :
    Turn w wF B d x D ⟨max D.g (f.l + 1), pb1, cap1, pl1, La ++ f0 :: (Lc ++ [f1])⟩ ∧ (esL (La ++ f0 :: (Lc ++ [f1]))).Perm D.es := by
  have hf : f ∈ D.L := by rw [e]; simp
  have hlf := h.lef hf
  have hnod := h.nod
  rw [e, fpL_append, fpL_cons] at hnod
  have hlt := h.fplt
  rw [e, fpL_append, fpL_cons] at hlt
  obtain ⟨n1, n2⟩ := List.nodup_cons.1 hnod
  obtain ⟨n3, n4⟩ := List.nodup_cons.1 n2
  rw [List.nodup_append, List.nodup_append] at n4
  obtain ⟨n5, ⟨n6, n7, n8⟩, n9⟩ := n4
  simp only [List.mem_cons, List.mem_append, not_or] at n1 n3
  have hdl := h.lt
  have hpl := (hlt D.pb (by simp)).2
  obtain ⟨m1, m2, m3⟩ := List.nodup_append.1 S.nod
  have hnew0 : ∀ j ∈ f0.fp, w.heap.size ≤ j := fun j hj => S.new j (List.mem_append.2 (.inl hj))
  have hnew1 : ∀ j ∈ f1.fp, w.heap.size ≤ j := fun j hj => S.new j (List.mem_append.2 (.inr hj))
  have hpm : (esL (La ++ f0 :: (Lc ++ [f1]))).Perm D.es := by
    unfold Dg.es
    rw [e, esL_append, esL_append, esL_cons, esL_cons, esL_append, esL_one]
    refine List.Perm.append_left _ ?_
    refine (List.Perm.append_left _ List.perm_append_comm).trans ?_
    rw [← List.append_assoc]
    exact ((S.es0.append S.es1).trans (split_perm x f.l f.es)).append_right _
  have hold : ∀ u, u ∈ La ∨ u ∈ Lc → u ∈ D.L := fun u hu => by rw [e]; rcases hu with hu | hu <;> simp [hu]
  have hpb : pb1 ≠ d := by
    rcases S.pb with e2 | e2
    · rw [e2]; exact fun e3 => n1.1 e3.symm
    · omega
  have hpbo : ∀ u, u ∈ La ∨ u ∈ Lc → pb1 ∉ u.fp := by
    intro u hu hk
    rcases S.pb with e2 | e2
    · rw [e2] at hk
      rcases hu with hu | hu
      · exact n3.1 (mem_fpL hu hk)
      · exact n3.2.2 (mem_fpL hu hk)
    · have := (h.leaf u (hold u hu)).fplt _ hk; omega
  have hap : ∀ u, u ∈ La ∨ u ∈ Lc → ∀ i, isIn u.pt i = true → isIn f.pt i = false := by
    intro u hu i hi
    cases hfi : isIn f.pt i with
    | false => rfl
    | true =>
      have := h.same (hold u hu) hf hi hfi
      subst this
      exfalso
      rcases hu with hu | hu
      · exact n9 u.a (mem_fpL hu (by simp [Lf.fp])) u.a (by simp [Lf.fp]) rfl
      · exact n8 u.a (by simp [Lf.fp]) u.a (mem_fpL hu (by simp [Lf.fp])) rfl
  refine ⟨⟨⟨?_, S.row, ?_, ?_, ?_, ?_, ?_, ?_, ?_, h.low, h.seed, ?_⟩, ?_, ?_⟩, hpm⟩
  · show wF.heap[d]? = some (.cells #[.int .u64 (x : Nat), .int .i64 ((esL (La ++ f0 :: (Lc ++ [f1]))).length : Nat), .slice (some ⟨pb1, 0, none⟩) (2 ^ max D.g (f.l + 1)) cap1] 121 (0, 0))
    rw [hpm.length_eq]
    exact S.blk
  · intro u hu
    simp only [List.mem_append, List.mem_cons, List.not_mem_nil, or_false] at hu
    have hk : u ∈ La ∨ u ∈ Lc → Leaf wF B x u := fun hu => (h.leaf u (hold u hu)).stay S.stay (fun k hk => by
      simp only [List.mem_cons, List.not_mem_nil, or_false, not_or]
      rcases hu with hu | hu
      · exact ⟨fun e => n1.2.1 (e ▸ mem_fpL hu hk), fun e => n3.1 (e ▸ mem_fpL hu hk)⟩
      · exact ⟨fun e => n1.2.2.2 (e ▸ mem_fpL hu hk), fun e => n3.2.2 (e ▸ mem_fpL hu hk)⟩)
    rcases hu with hu | rfl | hu | rfl
    · exact hk (.inl hu)
    · exact S.leaf0
    · exact hk (.inr hu)
    · exact S.leaf1
  · show Shp (max D.g (f.l + 1)) (shL (La ++ f0 :: (Lc ++ [f1])))
    have hs := h.shp
    unfold Dg.sh shL at hs
    rw [e, List.map_append, List.map_cons] at hs
    unfold shL
    rw [List.map_append, List.map_cons, List.map_append, S.pt0]
    show Shp _ (_ ++ _ :: (_ ++ [f1.pt]))
    rw [S.pt1]
    exact hs.split hl
  · intro u hu i hi hin
    show pl1[i]? = _
    rw [S.pls i hi]
    simp only [List.mem_append, List.mem_cons, List.not_mem_nil, or_false] at hu
    have hk : u ∈ La ∨ u ∈ Lc → plS D f.l f.q f0.a f1.a i = some u.a := fun hu => by
      have h1 := hap u hu i hin
      rw [isIn_no] at h1
      replace h1 : i % 2 ^ f.l ≠ f.q := h1
      unfold plS
      rw [if_neg h1]
      have h2 := h.place (hold u hu) hin
      exact h2.1
    rcases hu with hu | rfl | hu | rfl
    · exact hk (.inl hu)
    · rw [S.pt0, isIn_zero hlf.2.2, isIn_iff] at hin
      replace hin : i % 2 ^ f.l = f.q ∧ i / 2 ^ f.l % 2 = 0 := hin
      unfold plS
      rw [if_pos hin.1, if_pos hin.2]
    · exact hk (.inr hu)
    · rw [S.pt1, isIn_one, isIn_iff] at hin
      replace hin : i % 2 ^ f.l = f.q ∧ i / 2 ^ f.l % 2 = 1 := hin
      unfold plS
      rw [if_pos hin.1, if_neg (by rw [hin.2]; decide)]
  · intro u hu e' he'
    simp only [List.mem_append, List.mem_cons, List.not_mem_nil, or_false] at hu
    rcases hu with hu | rfl | hu | rfl
    · exact h.own u (hold u (.inl hu)) e' he'
    · have h1 := List.mem_filter.1 (S.es0.mem_iff.1 he')
      rw [S.pt0, isIn_zero hlf.2.2]
      refine ⟨h.own f hf e' h1.1, ?_⟩
      have h2 := h1.2
      rw [bset_nat _ _ hl] at h2
      simp at h2
      exact h2
    · exact h.own u (hold u (.inr hu)) e' he'
    · have h1 := List.mem_filter.1 (S.es1.mem_iff.1 he')
      rw [S.pt1, isIn_one]
      refine ⟨h.own f hf e' h1.1, ?_⟩
      have h2 := h1.2
      rw [bset_nat _ _ hl] at h2
      simpa using h2
  · intro u hu hl'
    simp only [List.mem_append, List.mem_cons, List.not_mem_nil, or_false] at hu
    rcases hu with hu | rfl | hu | rfl
    · exact h.one u (hold u (.inl hu)) hl'
    · exact S.one0
    · exact h.one u (hold u (.inr hu)) hl'
    · exact S.one1
  · intro u hu
    simp only [List.mem_append, List.mem_cons, List.not_mem_nil, or_false] at hu
    rcases hu with hu | rfl | hu | rfl
    · exact h.ful u (hold u (.inl hu))
    · exact .inl S.one0
    · exact h.ful u (hold u (.inr hu))
    · exact .inl S.one1
  · show (d :: pb1 :: fpL (La ++ f0 :: (Lc ++ [f1]))).Nodup
    have e1 : fpL [f1] = f1.fp := by rw [fpL_cons]; exact List.append_nil _
    have o1 : ∀ a ∈ fpL La, a < w.heap.size := fun a ha => (hlt a (by simp [ha])).2
    have o2 : ∀ a ∈ fpL Lc, a < w.heap.size := fun a ha => (hlt a (by simp [ha])).2
    rw [fpL_append, fpL_cons, fpL_append, e1, List.nodup_cons, List.nodup_cons, List.nodup_append, List.nodup_append, List.nodup_append]
    have p1 : pb1 ∉ fpL La := fun hm => by
      obtain ⟨u, hu, hk⟩ := List.mem_flatMap.1 hm
      exact hpbo u (.inl hu) hk
    have p2 : pb1 ∉ fpL Lc := fun hm => by
      obtain ⟨u, hu, hk⟩ := List.mem_flatMap.1 hm
      exact hpbo u (.inr hu) hk
    have p3 := S.pbn
    simp only [List.mem_append, not_or] at p3
    refine ⟨?_, ?_, n5, ⟨m1, ⟨n7, m2, ?_⟩, ?_⟩, ?_⟩
    · simp only [List.mem_cons, List.mem_append, not_or]
      exact ⟨fun e => hpb e.symm, n1.2.1, fun hm => by have := hnew0 _ hm; omega, n1.2.2.2, fun hm => by have := hnew1 _ hm; omega⟩
    · simp only [List.mem_append, not_or]
      exact ⟨p1, p3.1, p2, p3.2⟩
    · intro a ha b hb e; subst e; have := hnew1 _ hb; have := o2 _ ha; omega
    · intro a ha b hb e
      subst e
      rcases List.mem_append.1 hb with hb | hb
      · have := hnew0 _ ha; have := o2 _ hb; omega
      · exact m3 a ha a hb rfl
    · intro a ha b hb e
      subst e
      have h1 := o1 _ ha
      simp only [List.mem_append] at hb
      rcases hb with hb | hb | hb
      · have := hnew0 _ hb; omega
      · exact n9 a ha a (by simp [hb]) rfl
      · have := hnew1 _ hb; omega
  · show (esL _).length ≤ _
    rw [hpm.length_eq]
    exact h.le
  · exact S.stay.mono (fun i hi => by simp only [List.mem_cons, List.not_mem_nil, or_false] at hi; unfold Dg.fp; rcases hi with rfl | rfl <;> simp)
  · intro j hj
    change j ∈ d :: pb1 :: fpL (La ++ f0 :: (Lc ++ [f1])) at hj
    unfold Dg.fp
    rw [e]
    rw [fpL_append, fpL_cons, fpL_append, fpL_cons] at hj
    rw [fpL_append, fpL_cons]
    simp only [List.mem_cons, List.mem_append] at hj ⊢
    rcases hj with hj | hj | hj | hj | hj | hj | hj
    · exact .inl (.inl hj)
    · rcases S.pb with e2 | e2
      · exact .inl (.inr (.inl (hj.trans e2)))
      · exact .inr (by omega)
    · exact .inl (.inr (.inr (.inl hj)))
    · exact .inr (hnew0 j hj)
    · exact .inl (.inr (.inr (.inr (.inr hj))))
    · exact .inr (hnew1 j hj)
    · simp [fpL] at hj
end Go.Proofs.YtnajhjmdpaeelaaGreatDoor.Zs.Dk
