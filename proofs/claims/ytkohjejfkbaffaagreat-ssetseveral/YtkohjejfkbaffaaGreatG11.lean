/-
  remove: a leaf with one key less.
  A dict in memory; Depth, Len, leafOf, Get.
  Get; leaves, Tables, Keys.
  Keys, Bucket, Scan, Pick.
  Scan and Pick.
-/
import Derived.Test.YtkohjejfkbaffaaGreatG10
namespace Go.Proofs.YtkohjejfkbaffaaGreat.Dk
open Go.RowKit Go.PlainAid

theorem remove_no (B x : Nat) (f : Lf) (k : ByteArray) (w : World) (hL : Leaf w B x f) (hks : k.size ≤ maxLen) (hk : k ∉ keysOf f.es) :
    Calls Tryz.prog 71 #[ptr f.a, .string k] w fun e w' => e = .returned (.bool false) ∧ Below w.heap.size w w' := by
  have HL : Hid (Leaf w B x f) := hL
  have hc := hL.tabs
  have hmx := hL.max
  have HK : Hid (k ∉ keysOf f.es) := hk
  have HKS : Hid (k.size ≤ maxLen) := hks
  generalize hm : f.ts.length = m at hc hmx
  have HM : Hid (f.ts.length = m) := hm
  clear hL hm hk hks
  go_enter Tryz.func71, Tryz.ntmps71
  go_wp2
  go_loopg [5, 6, 12] m (fun q jv tv iv wr => ∃ i : Nat, i + q = m ∧ iv = .int .i64 i ∧ Hid (Below w.heap.size w wr))
  case atStart => exact ⟨0, by omega, rfl, Below.refl _ _⟩
  case round =>
    obtain ⟨i, hi, rfl, HB⟩ := hrel
    by_cases h8 : (i : Int) < m
    · obtain ⟨t, ht, htm⟩ := get_of_lt (l := f.ts) (i := i) (by have := HM.out; omega)
      have hcc := (HL.out.keep HB.out).at ht
      have hG := Delete_no _ _ _ _ _ _ k _ ((HL.out.keep HB.out).tab t htm) HKS.out (not_in_tab HK.out htm)
      clear ht htm
      go_wp2_with fail
      refine hG.mono ?_
      rintro e w1 ⟨rfl, hb1⟩
      have HB1 := step_below HB hb1
      clear hb1 hG
      go_wp2
      go_roundg (gk - 1)
      case measure => omega
      case rel => exact ⟨i + 1, by omega, by go_num, HB1⟩
    · go_wp2
      go_ret
      exact ⟨rfl, HB.out⟩

/-- One table less. -/
theorem Leaf.drop {w w3 : World} {B x : Nat} {f : Lf} {pre post : List Tb} {t : Tb} {n' c' : Nat} (h : Leaf w B x f) (e : f.ts = pre ++ t :: post) (hg : w.grownBy w3 (some f.tb)) (hO : OwnP w3 B 95 (some ⟨f.tb, 0, none⟩) n' c' ((pre ++ post).map (·.p))) (hpos : 0 < (pre ++ post).length) :
    Leaf (w3.setCell ⟨f.a, 1, none⟩ (.slice (some ⟨f.tb, 0, none⟩) n' c')) B x { f with cap := c', ts := pre ++ post } ∧ (∀ j ∈ ({ f with cap := c', ts := pre ++ post } : Lf).fp, j ∈ f.fp) := by
  have hlen : (pre ++ post).length = n' := by have := OwnP.len hO; rw [List.length_map] at this; exact this
  have hsub : ((tsFp (pre ++ post)).Sublist (tsFp f.ts)) := by
    rw [e, tsFp_append, tsFp_append, tsFp_cons]
    exact List.Sublist.append_left ((List.sublist_cons_self _ _).trans (List.sublist_cons_self _ _)) _
  have hes : (tsEs (pre ++ post)).Sublist f.es := by
    unfold Lf.es
    rw [e, tsEs_append, tsEs_append, tsEs_cons]
    exact List.Sublist.append_left (List.sublist_append_right _ _) _
  have hn := h.nod
  unfold Lf.fp at hn
  rw [List.nodup_cons, List.nodup_cons] at hn
  obtain ⟨n1, n2, n3⟩ := hn
  rw [List.mem_cons, not_or] at n1
  have hS : Stay w w3 [f.tb] := Stay.grown hg (fun g e => by cases e; simp)
  have hS2 : Stay w (w3.setCell ⟨f.a, 1, none⟩ (.slice (some ⟨f.tb, 0, none⟩) n' c')) [f.tb, f.a] :=
    (hS.mono (by simp)).trans Stay.set (fun i hi => .inl (by simp at hi; simp [hi]))
  have hblk3 : w3.heap[f.a]? = some (.cells #[.int .i64 (f.l : Nat), .slice (some ⟨f.tb, 0, none⟩) f.ts.length f.cap] 112 (0, 0)) := by
    rw [hS.block f.a h.lt (by simpa using n1.1)]; exact h.blk
  refine ⟨⟨?_, ?_, ?_, h.low, ?_, ?_, hpos⟩, ?_⟩
  · show (w3.setCell ⟨f.a, 1, none⟩ _).heap[f.a]? = some (.cells #[.int .i64 (f.l : Nat), .slice (some ⟨f.tb, 0, none⟩) (pre ++ post).length c'] 112 (0, 0))
    rw [heap_set hblk3, hlen]
    rfl
  · show OwnP _ B 95 (some ⟨f.tb, 0, none⟩) (pre ++ post).length c' ((pre ++ post).map (·.p))
    rw [hlen]
    exact OwnR.stay hO (Stay.set (q := f.a)) (fun k hk => by cases hk; simpa using fun e => n1.1 e.symm)
  · intro u hu
    have hu' : u ∈ f.ts := by rw [e]; rcases List.mem_append.1 hu with h | h <;> simp [h]
    have hm := mem_tsFp hu'
    refine (h.tab u hu').stay hS2 ?_ ?_
    · simp only [List.mem_cons, List.not_mem_nil, or_false, not_or]
      exact ⟨fun e => n2 (e ▸ hm.1), fun e => n1.2 (e ▸ hm.1)⟩
    · simp only [List.mem_cons, List.not_mem_nil, or_false, not_or]
      exact ⟨fun e => n2 (e ▸ hm.2), fun e => n1.2 (e ▸ hm.2)⟩
  · exact ((hsub.cons_cons f.tb).cons_cons f.a).nodup h.nod
  · exact (hes.map (·.1)).nodup h.key
  · intro j hj
    exact ((hsub.cons_cons f.tb).cons_cons f.a).mem hj

/-- A leaf with one key less. -/
def Removed (w w' : World) (B x : Nat) (f : Lf) (k : ByteArray) : Prop :=
  ∃ f', Grew w w' B x f f' ∧ (∃ u, f.es.Perm ((k, u) :: f'.es)) ∧ (f.ts.length = 1 → f'.ts.length = 1) ∧ (Ful f → Ful f')

set_option maxRecDepth 100000 in
set_option maxHeartbeats 4000000 in
theorem remove_yes (B x : Nat) (f : Lf) (k : ByteArray) (w : World) (hL : Leaf w B x f) (hks : k.size ≤ maxLen) (hk : k ∈ keysOf f.es) :
    Calls Tryz.prog 71 #[ptr f.a, .string k] w fun e w' => e = .returned (.bool true) ∧ Removed w w' B x f k := by
  have HL : Hid (Leaf w B x f) := hL
  have hc := hL.tabs
  have hmx := hL.max
  have HK : Hid (k ∈ keysOf (tsEs f.ts)) := hk
  have HKS : Hid (k.size ≤ maxLen) := hks
  generalize hm : f.ts.length = m at hc hmx
  have HM : Hid (f.ts.length = m) := hm
  clear hL hm hk hks
  go_enter Tryz.func71, Tryz.ntmps71
  go_wp2
  go_loopg [5, 6, 12] m (fun q jv tv iv wr => ∃ i : Nat, i + q = m ∧ iv = .int .i64 i ∧ Hid (k ∉ keysOf (tsEs (f.ts.take i))) ∧ Hid (Below w.heap.size w wr))
  case atStart => exact ⟨0, by omega, rfl, (by simp [tsEs] : k ∉ _), Below.refl _ _⟩
  case round =>
    obtain ⟨i, hi, rfl, HNo, HB⟩ := hrel
    by_cases h8 : (i : Int) < m
    · obtain ⟨t, ht, htm⟩ := get_of_lt (l := f.ts) (i := i) (by have := HM.out; omega)
      have hcc := (HL.out.keep HB.out).at ht
      have HTab : Hid (Tab wr B t.p t.b x t.G t.z) := (HL.out.keep HB.out).tab t htm
      by_cases hin : k ∈ (ents t.z).map (·.1)
      · have hD := Delete_yes _ _ _ _ _ _ k _ HTab.out HKS.out hin
        have HG : Hid (f.ts = f.ts.take i ++ t :: f.ts.drop (i + 1)) := get_parts ht
        clear ht htm hin
        go_wp2_with fail
        refine hD.mono ?_
        rintro e w1 ⟨rfl, hm1, z1, hT1, u, hp1⟩
        have HPm : Hid (f.es.Perm ((k, u) :: tsEs (f.ts.take i ++ ⟨t.p, t.b, t.G, z1⟩ :: f.ts.drop (i + 1)))) := by
          show f.es.Perm _
          have := mid_perm (pre := f.ts.take i) (post := f.ts.drop (i + 1)) (t := ⟨t.p, t.b, t.G, z1⟩) (t' := t) (e := [(k, u)]) (hp1.trans (List.perm_append_singleton _ _).symm)
          rw [← HG.out] at this
          exact this.trans (List.perm_append_singleton _ _)
        have hkn : (keysOf (tsEs (f.ts.take i ++ ⟨t.p, t.b, t.G, z1⟩ :: f.ts.drop (i + 1)))).Nodup := (List.nodup_cons.1 ((HPm.out.map (·.1)).nodup_iff.1 HL.out.key)).2
        have HT : Hid (Leaf w1 B x { f with ts := f.ts.take i ++ ⟨t.p, t.b, t.G, z1⟩ :: f.ts.drop (i + 1) } ∧ (∀ j ∈ ({ f with ts := f.ts.take i ++ ⟨t.p, t.b, t.G, z1⟩ :: f.ts.drop (i + 1) } : Lf).fp, j ∈ f.fp ∨ wr.heap.size ≤ j) ∧ Stay wr w1 f.fp) := (HL.out.keep HB.out).turn HG.out (Stay.of_moves hm1) hT1 (.inl rfl) hkn
        have hLen := Len_any _ _ _ _ _ _ _ hT1
        have HLn : Hid ((f.ts.take i ++ (⟨t.p, t.b, t.G, z1⟩ : Tb) :: f.ts.drop (i + 1)).length = m) := by
          have := congrArg List.length HG.out
          show _ = _
          rw [← HM.out, this]
          simp
        have HR : Hid ((m = 1 ∨ 0 < (ents z1).length) → Removed w w1 B x f k) := fun hor => ⟨_, (⟨HT.out.1, HT.out.2.2, HT.out.2.1, rfl, rfl, rfl⟩ : Grew wr w1 B x f _).first HB.out, ⟨u, HPm.out⟩, fun h1 => by
          show (f.ts.take i ++ (⟨t.p, t.b, t.G, z1⟩ : Tb) :: f.ts.drop (i + 1)).length = 1
          rw [HLn.out, ← HM.out]; exact h1, fun h1 => by
            rcases hor with hor | hor
            · exact .inl (by rw [HLn.out]; exact hor)
            · rcases h1 with h1 | h1
              · exact .inl (by show (f.ts.take i ++ (⟨t.p, t.b, t.G, z1⟩ : Tb) :: f.ts.drop (i + 1)).length = 1; rw [HLn.out, ← HM.out]; exact h1)
              · refine .inr fun v hv => ?_
                rcases List.mem_append.1 hv with hv | hv
                · exact h1 v (List.mem_of_mem_take hv)
                · rcases List.mem_cons.1 hv with rfl | hv
                  · exact hor
                  · exact h1 v (List.mem_of_mem_drop hv)⟩
        have hc1 := HT.out.1.tabs
        simp only [] at hc1
        rw [HLn.out] at hc1
        clear hm1 hT1 hp1 hkn hD hc hcc
        generalize hd : (ents z1).length = d at hLen
        have HD : Hid ((ents z1).length = d) := hd
        clear hd
        by_cases hd0 : d = 0
        · subst hd0
          replace hLen : Calls Tryz.prog 82 #[ptr t.p] w1 fun e w' => e = .returned (.int .i64 0) ∧ w' = w1 := hLen
          by_cases hm1 : (1 : Int) < m
          · have hrow := Delete_row B f.tb m f.cap ((f.ts.take i ++ (⟨t.p, t.b, t.G, z1⟩ : Tb) :: f.ts.drop (i + 1)).map (·.p)) i w1 (by have := HT.out.1.row; simp only [] at this; rw [HLn.out] at this; exact this) (by omega)
            go_wp2_with fail
            refine hLen.mono ?_
            rintro e w1 ⟨rfl, rfl⟩
            go_wp2_with fail
            refine hrow.mono ?_
            rintro e w2 ⟨n', c', rfl, hO2, hg2⟩
            have HF : Hid (some f.a ≠ some f.tb) := by
              have h := HL.out.nod
              unfold Lf.fp at h
              rw [List.nodup_cons] at h
              intro e
              injection e with e
              exact h.1 (by simp [e])
            have hbl : w2.heap[f.a]? = w1.heap[f.a]? := hg2.block f.a HT.out.1.lt HF.out
            have hc2 : w2.cell? ⟨f.a, 1, none⟩ = some (.slice (some ⟨f.tb, 0, none⟩) m f.cap) := by rw [World.cell?_of_block hbl]; exact hc1
            have hf2 : w2.frozen? ⟨f.a, 1, none⟩ = false := by have := HT.out.1.blk; rw [← hbl] at this; simp [World.frozen?, this]
            have HO2 : Hid (OwnP w2 B 95 (some ⟨f.tb, 0, none⟩) n' c' ((f.ts.take i ++ f.ts.drop (i + 1)).map (·.p))) := by
              show OwnP _ _ _ _ _ _ _
              have hil : (f.ts.take i).length = i := by rw [List.length_take, HM.out]; omega
              have e1 : ((f.ts.take i ++ (⟨t.p, t.b, t.G, z1⟩ : Tb) :: f.ts.drop (i + 1)).map (·.p)).take i = (f.ts.take i).map (·.p) := by
                rw [← List.map_take, List.take_append_of_le_length (by omega), List.take_of_length_le (by omega)]
              have e2 : ((f.ts.take i ++ (⟨t.p, t.b, t.G, z1⟩ : Tb) :: f.ts.drop (i + 1)).map (·.p)).drop (i + 1) = (f.ts.drop (i + 1)).map (·.p) := by
                rw [← List.map_drop, List.drop_append, List.drop_of_length_le (by omega), hil, show i + 1 - i = 1 by omega]
                rfl
              rw [e1, e2] at hO2
              rw [List.map_append]
              exact hO2
            have HG2 : Hid (w1.grownBy w2 (some f.tb)) := hg2
            clear hO2 hg2 hbl hrow hLen
            go_wp2
            go_ret
            refine ⟨rfl, ?_⟩
            have hpos : 0 < (f.ts.take i ++ f.ts.drop (i + 1)).length := by
              rw [List.length_append, List.length_take, List.length_drop, HM.out]
              omega
            obtain ⟨k1, k2⟩ := HT.out.1.drop (pre := f.ts.take i) (post := f.ts.drop (i + 1)) rfl HG2.out HO2.out hpos
            refine ⟨_, (⟨k1, ?_, fun j hj => HT.out.2.1 j (k2 j hj), rfl, rfl, rfl⟩ : Grew wr _ B x f _).first HB.out, ⟨u, ?_⟩, ?_, ?_⟩
            · refine HT.out.2.2.trans (M' := [f.tb, f.a]) ((Stay.grown HG2.out (M := [f.tb, f.a]) (fun g e => by simp at e; simp [e])).trans Stay.set (fun i hi => .inl (by simp at hi; simp [hi]))) (fun i hi => .inl (by simp at hi; rcases hi with rfl | rfl <;> simp [Lf.fp]))
            · refine HPm.out.trans (List.Perm.cons _ ?_)
              show (tsEs _).Perm (tsEs _)
              have hz : (⟨t.p, t.b, t.G, z1⟩ : Tb).es = [] := List.length_eq_zero_iff.1 HD.out
              rw [tsEs_append, tsEs_append, tsEs_cons, hz, List.nil_append]
            · intro h1
              rw [HM.out] at h1
              omega
            · intro h1
              rcases h1 with h1 | h1
              · rw [HM.out] at h1
                omega
              · refine .inr fun v hv => ?_
                rcases List.mem_append.1 hv with hv | hv
                · exact h1 v (List.mem_of_mem_take hv)
                · exact h1 v (List.mem_of_mem_drop hv)
          · have hm2 : decide ((1 : Int) < m) = false := decide_eq_false hm1
            have HR1 : Hid (Removed w w1 B x f k) := HR.out (.inl (by have := HL.out.pos; have := HM.out; omega))
            clear HR
            go_wp2_with fail
            refine hLen.mono ?_
            rintro e w1 ⟨rfl, rfl⟩
            go_wp2
            go_ret
            exact ⟨rfl, HR1.out⟩
        · have HR1 : Hid (Removed w w1 B x f k) := HR.out (.inr (by have := HD.out; omega))
          clear HR
          have hdz : ((d : Int) == 0) = false := by simp; omega
          go_wp2_with fail
          refine hLen.mono ?_
          rintro e w1 ⟨rfl, rfl⟩
          go_wp2
          go_ret
          exact ⟨rfl, HR1.out⟩
      · have hG := Delete_no _ _ _ _ _ _ k _ HTab.out HKS.out hin
        have HNo1 : Hid (k ∉ keysOf (tsEs (f.ts.take (i + 1)))) := by
          show k ∉ _
          rw [take_more ht, tsEs_append, keysOf_append, tsEs_one, List.mem_append]
          exact fun h => h.elim HNo.out hin
        clear ht htm hin
        go_wp2_with fail
        refine hG.mono ?_
        rintro e w1 ⟨rfl, hb1⟩
        have HB1 := step_below HB hb1
        clear hb1 hG
        go_wp2
        go_roundg (gk - 1)
        case measure => omega
        case rel => exact ⟨i + 1, by omega, by go_num, HNo1, HB1⟩
    · exact absurd HK.out (by have := HNo.out; rw [List.take_of_length_le (by have := HM.out; omega)] at this; exact this)
end Go.Proofs.YtkohjejfkbaffaaGreat.Dk

namespace Go.Proofs.YtkohjejfkbaffaaGreat.Dk
open Go.RowKit Go.PlainAid

/-- What is in a dict: its depth; where its row of places lies, and whither they lead; its leaves. -/
structure Dg where
  g : Nat
  pb : Nat
  cap : Nat
  pl : List Nat
  L : List Lf
def shL (L : List Lf) : List Pt := L.map Lf.pt
def esL (L : List Lf) : List En := L.flatMap Lf.es
def fpL (L : List Lf) : List Nat := L.flatMap Lf.fp
def Dg.sh (D : Dg) : List Pt := shL D.L
def Dg.es (D : Dg) : List En := esL D.L

/-- A dict in memory. -/
structure Dct (w : World) (B d x : Nat) (D : Dg) : Prop where
  blk : w.heap[d]? = some (.cells #[.int .u64 (x : Nat), .int .i64 (D.es.length : Nat), .slice (some ⟨D.pb, 0, none⟩) (2 ^ D.g) D.cap] 94 (0, 0))
  row : OwnP w B 96 (some ⟨D.pb, 0, none⟩) (2 ^ D.g) D.cap D.pl
  leaf : ∀ f ∈ D.L, Leaf w B x f
  shp : Shp D.g D.sh
  dir : ∀ f ∈ D.L, ∀ i, i < 2 ^ D.g → isIn f.pt i = true → D.pl[i]? = some f.a
  own : ∀ f ∈ D.L, ∀ e ∈ f.es, isIn f.pt (hsh x e.1) = true
  one : ∀ f ∈ D.L, f.l < 16 → f.ts.length = 1
  ful : ∀ f ∈ D.L, Ful f
  nod : (d :: D.pb :: fpL D.L).Nodup
  low : B ≤ d
  seed : x < 18446744073709551616
  le : D.es.length ≤ 1000000

theorem esL_append (a b : List Lf) : esL (a ++ b) = esL a ++ esL b := List.flatMap_append ..
theorem esL_cons (f : Lf) (b : List Lf) : esL (f :: b) = f.es ++ esL b := List.flatMap_cons ..
theorem esL_one (f : Lf) : esL [f] = f.es := by rw [esL_cons]; exact List.append_nil _
theorem fpL_append (a b : List Lf) : fpL (a ++ b) = fpL a ++ fpL b := List.flatMap_append ..
theorem fpL_cons (f : Lf) (b : List Lf) : fpL (f :: b) = f.fp ++ fpL b := List.flatMap_cons ..
theorem mem_fpL {L : List Lf} {f : Lf} (h : f ∈ L) {j : Nat} (hj : j ∈ f.fp) : j ∈ fpL L := List.mem_flatMap.2 ⟨f, h, hj⟩
theorem shL_append (a b : List Lf) : shL (a ++ b) = shL a ++ shL b := List.map_append ..
theorem mem_esL {L : List Lf} {f : Lf} (h : f ∈ L) {e : En} (he : e ∈ f.es) : e ∈ esL L := List.mem_flatMap.2 ⟨f, h, he⟩

theorem Dct.lt {w : World} {B d x : Nat} {D : Dg} (h : Dct w B d x D) : d < w.heap.size := (Array.getElem?_eq_some_iff.1 h.blk).1
theorem Dct.fplt {w : World} {B d x : Nat} {D : Dg} (h : Dct w B d x D) : ∀ k ∈ d :: D.pb :: fpL D.L, B ≤ k ∧ k < w.heap.size := by
  intro k hk
  rcases List.mem_cons.1 hk with rfl | hk
  · exact ⟨h.low, h.lt⟩
  rcases List.mem_cons.1 hk with rfl | hk
  · have := OwnR.lt h.row (k := D.pb) rfl
    exact ⟨this.1, this.2.1⟩
  · obtain ⟨f, hf, hk⟩ := List.mem_flatMap.1 hk
    exact (h.leaf f hf).fplt k hk
theorem Dct.stay {w w' : World} {B d x : Nat} {D : Dg} {M : List Nat} (h : Dct w B d x D) (hs : Stay w w' M) (hd : ∀ k ∈ d :: D.pb :: fpL D.L, k ∉ M) : Dct w' B d x D :=
  ⟨by rw [hs.block d h.lt (hd _ (by simp))]; exact h.blk, OwnR.stay h.row hs (fun k hk => hd k (by cases hk; simp)), fun f hf => (h.leaf f hf).stay hs (fun k hk => hd k (List.mem_cons_of_mem _ (List.mem_cons_of_mem _ (mem_fpL hf hk)))), h.shp, h.dir, h.own, h.one, h.ful, h.nod, h.low, h.seed, h.le⟩
theorem Dct.keep {w w' : World} {B d x : Nat} {D : Dg} (h : Dct w B d x D) (hb : Below w.heap.size w w') : Dct w' B d x D := h.stay (Stay.of_below hb []) (fun _ _ => by simp)
theorem Dct.cseed {w : World} {B d x : Nat} {D : Dg} (h : Dct w B d x D) : w.cell? ⟨d, 0, none⟩ = some (.int .u64 (x : Nat)) := by simp [World.cell?, h.blk]
theorem Dct.ccnt {w : World} {B d x : Nat} {D : Dg} (h : Dct w B d x D) : w.cell? ⟨d, 1, none⟩ = some (.int .i64 (D.es.length : Nat)) := by simp [World.cell?, h.blk]
theorem Dct.cpl {w : World} {B d x : Nat} {D : Dg} (h : Dct w B d x D) : w.cell? ⟨d, 2, none⟩ = some (.slice (some ⟨D.pb, 0, none⟩) (2 ^ D.g) D.cap) := by simp [World.cell?, h.blk]
theorem Dct.frozen {w : World} {B d x : Nat} {D : Dg} (h : Dct w B d x D) (o : Nat) : w.frozen? ⟨d, o, none⟩ = false := by simp [World.frozen?, h.blk]
theorem Dct.len {w : World} {B d x : Nat} {D : Dg} (h : Dct w B d x D) : D.pl.length = 2 ^ D.g := OwnP.len h.row
theorem Dct.pow {w : World} {B d x : Nat} {D : Dg} (h : Dct w B d x D) : 2 ^ D.g ≤ 65536 := pow_le_16 h.shp.le
theorem Dct.les {w : World} {B d x : Nat} {D : Dg} (h : Dct w B d x D) {f : Lf} (hf : f ∈ D.L) : f.es.length ≤ 1000000 := by
  obtain ⟨a, c, e⟩ := List.append_of_mem hf
  have h1 := h.le
  unfold Dg.es at h1
  rw [e, esL_append, esL_cons, List.length_append, List.length_append] at h1
  omega
theorem Dct.lef {w : World} {B d x : Nat} {D : Dg} (h : Dct w B d x D) {f : Lf} (hf : f ∈ D.L) : f.l ≤ D.g ∧ f.l ≤ 16 ∧ f.q < 2 ^ f.l := by
  have h1 := h.shp.lt f.pt (List.mem_map_of_mem hf)
  have h2 := h.shp.le
  simp only [Lf.pt] at h1
  omega
/-- The leaf of a hash, and that its keys belong nowhere else. -/
theorem Dct.parts {w : World} {B d x : Nat} {D : Dg} (h : Dct w B d x D) (hh : Nat) : ∃ a f c, D.L = a ++ f :: c ∧ isIn f.pt hh = true ∧ (∀ u ∈ a, isIn u.pt hh = false) ∧ (∀ u ∈ c, isIn u.pt hh = false) := by
  obtain ⟨sa, s, sc, e, h1, h2, h3⟩ := h.shp.parts hh
  unfold Dg.sh shL at e
  obtain ⟨a, l2, e1, rfl, e3⟩ := List.map_eq_append_iff.1 e
  obtain ⟨f, c, rfl, rfl, rfl⟩ := List.map_eq_cons_iff.1 e3
  exact ⟨a, f, c, e1, h1, fun u hu => h2 _ (List.mem_map_of_mem hu), fun u hu => h3 _ (List.mem_map_of_mem hu)⟩
theorem Dct.place {w : World} {B d x : Nat} {D : Dg} (h : Dct w B d x D) {f : Lf} (hf : f ∈ D.L) {hh : Nat} (hi : isIn f.pt hh = true) : D.pl[hh % 2 ^ D.g]? = some f.a ∧ hh % 2 ^ D.g < 2 ^ D.g := by
  have hlt : hh % 2 ^ D.g < 2 ^ D.g := Nat.mod_lt _ (pow_pos _)
  refine ⟨h.dir f hf _ hlt ?_, hlt⟩
  rw [isIn_low (h.lef hf).1]
  exact hi
/-- A key that is there is in the leaf of its hash. -/
theorem Dct.mem {w : World} {B d x : Nat} {D : Dg} (h : Dct w B d x D) {a c : List Lf} {f : Lf} {k : ByteArray} (e : D.L = a ++ f :: c) (h2 : ∀ u ∈ a, isIn u.pt (hsh x k) = false) (h3 : ∀ u ∈ c, isIn u.pt (hsh x k) = false) {v : Unit} : (k, v) ∈ D.es ↔ (k, v) ∈ f.es := by
  constructor
  · intro hm
    obtain ⟨u, hu, hm⟩ := List.mem_flatMap.1 hm
    have ho := h.own u hu _ hm
    rw [e] at hu
    rcases List.mem_append.1 hu with hu | hu
    · rw [h2 u hu] at ho; cases ho
    · rcases List.mem_cons.1 hu with rfl | hu
      · exact hm
      · rw [h3 u hu] at ho; cases ho
  · intro hm
    exact mem_esL (by rw [e]; simp) hm
theorem Dct.memk {w : World} {B d x : Nat} {D : Dg} (h : Dct w B d x D) {a c : List Lf} {f : Lf} {k : ByteArray} (e : D.L = a ++ f :: c) (h2 : ∀ u ∈ a, isIn u.pt (hsh x k) = false) (h3 : ∀ u ∈ c, isIn u.pt (hsh x k) = false) : k ∈ keysOf D.es ↔ k ∈ keysOf f.es := by
  constructor
  · intro hm
    obtain ⟨⟨k', v⟩, hm2, rfl⟩ := List.mem_map.1 hm
    exact List.mem_map.2 ⟨_, (h.mem e h2 h3).1 hm2, rfl⟩
  · intro hm
    obtain ⟨⟨k', v⟩, hm2, rfl⟩ := List.mem_map.1 hm
    exact List.mem_map.2 ⟨_, (h.mem e h2 h3).2 hm2, rfl⟩

set_option maxRecDepth 100000 in
theorem Len64_pow (g : Nat) (hg : g ≤ 16) (w : World) : Calls Tryz.prog 130 #[.int .u64 ((2 ^ g : Nat) : Int)] w fun e w' => e = .returned (.int .i64 ((g : Int) + 1)) ∧ w' = w := by
  rcases (by omega : g = 0 ∨ g = 1 ∨ g = 2 ∨ g = 3 ∨ g = 4 ∨ g = 5 ∨ g = 6 ∨ g = 7 ∨ g = 8 ∨ g = 9 ∨ g = 10 ∨ g = 11 ∨ g = 12 ∨ g = 13 ∨ g = 14 ∨ g = 15 ∨ g = 16) with rfl | rfl | rfl | rfl | rfl | rfl | rfl | rfl | rfl | rfl | rfl | rfl | rfl | rfl | rfl | rfl | rfl
  all_goals
    go_enter Tryz.func130, Tryz.ntmps130
    go_wp2
    go_ret
    exact ⟨by kernel_rfl, rfl⟩
theorem Len_pow (g : Nat) (hg : g ≤ 16) (w : World) : Calls Tryz.prog 103 #[.int .u64 ((2 ^ g : Nat) : Int)] w fun e w' => e = .returned (.int .i64 ((g : Int) + 1)) ∧ w' = w := by
  have H := fun w => Len64_pow g hg w
  generalize ((2 ^ g : Nat) : Int) = p at H
  go_enter Tryz.func103, Tryz.ntmps103
  go_wp2_with fail
  refine (H _).mono ?_
  rintro e w ⟨rfl, rfl⟩
  go_wp2
  go_ret
  exact ⟨rfl, rfl⟩
theorem Depth_any (B d x : Nat) (D : Dg) (w : World) (hD : Dct w B d x D) : Calls Tryz.prog 80 #[ptr d] w fun e w' => e = .returned (.int .i64 (D.g : Nat)) ∧ w' = w := by
  have hc := hD.cpl
  have hg := hD.shp.le
  have H := fun w => Len_pow D.g hg w
  have hp := hD.pow
  generalize D.g = g at hc hg H hp ⊢
  generalize 2 ^ g = p at hc H hp
  clear hD
  go_enter Tryz.func80, Tryz.ntmps80
  go_wp2_with fail
  refine (H _).mono ?_
  rintro e w ⟨rfl, rfl⟩
  go_wp2
  go_ret
  exact ⟨by go_num, rfl⟩
theorem Len_dict (B d x : Nat) (D : Dg) (w : World) (hD : Dct w B d x D) : Calls Tryz.prog 36 #[ptr d] w fun e w' => e = .returned (.int .i64 (D.es.length : Nat)) ∧ w' = w := by
  have hc := hD.ccnt
  clear hD
  go_enter Tryz.func36, Tryz.ntmps36
  go_wp2
  go_ret
  exact ⟨rfl, rfl⟩
theorem leafOf_any (B d x : Nat) (D : Dg) (f : Lf) (h : Nat) (w : World) (hD : Dct w B d x D) (hf : f ∈ D.L) (hi : isIn f.pt h = true) (hh : h < 18446744073709551616) :
    Calls Tryz.prog 59 #[ptr d, .int .u64 h] w fun e w' => e = .returned (ptr f.a) ∧ Below w.heap.size w w' := by
  have HD : Hid (Dct w B d x D) := hD
  have hc := hD.cpl
  have hp := hD.pow
  obtain ⟨hpl, hlt⟩ := hD.place hf hi
  have hrow := OwnP.cell hD.row hpl
  have hg := hD.shp.le
  have HDe := fun q => Depth_any B d x D (w.drewN q) (hD.keep (below_drewN w q))
  have HLo := fun w => Low_any h D.g w hh (by omega) (by omega)
  rw [low_dep, dep_nat hg] at HLo
  generalize D.g = g at hc hg hp hlt HDe HLo hrow
  generalize h % 2 ^ g = i at hlt HLo hrow
  generalize 2 ^ g = p at hc hp hlt
  have hiz : (i : Int) < p := by omega
  clear hD hpl
  go_enter Tryz.func59, Tryz.ntmps59
  go_wp2
  go_quiet ((first | (go_at_call 80; with_reducible exact Calls.quiet_of_same (HDe _)) | (go_at_call 79; with_reducible exact Calls.quiet_of_same (HLo _))))
  go_wp2
  go_ret
  exact ⟨rfl, below_drewN _ _⟩
end Go.Proofs.YtkohjejfkbaffaaGreat.Dk

namespace Go.Proofs.YtkohjejfkbaffaaGreat.Dk
open Go.RowKit Go.PlainAid

theorem val_one {es : List En} (hn : (keysOf es).Nodup) {k : ByteArray} {u v : Unit} (h1 : (k, u) ∈ es) (h2 : (k, v) ∈ es) : u = v := (fun _ _ _ => rfl : (keysOf es).Nodup → (k, u) ∈ es → (k, v) ∈ es → u = v) hn h1 h2
theorem Of_hsh (x : Nat) (k : ByteArray) (w : World) (hks : k.size ≤ maxLen) (hx : x < 18446744073709551616) : Calls Tryz.prog 58 #[.int .u64 x, .string k] w fun e w' => e = .returned (.int .u64 (hsh x k : Nat)) ∧ w' = w := Of_any x k w hks hx

set_option maxHeartbeats 4000000 in
theorem Get_dsome (B d x : Nat) (D : Dg) (k : ByteArray) (v : Unit) (w : World) (hD : Dct w B d x D) (hks : k.size ≤ maxLen) (hk : (k, v) ∈ D.es) :
    Calls Tryz.prog 52 #[ptr d, .string k] w fun e w' => e = .returned (.tuple #[.agg #[], .bool true]) ∧ Below w.heap.size w w' := by
  obtain ⟨La, f, Lc, eL, hi, h2, h3⟩ := hD.parts (hsh x k)
  have hf : f ∈ D.L := by rw [eL]; simp
  have HK : Hid ((k, v) ∈ tsEs f.ts) := (hD.mem eL h2 h3).1 hk
  obtain ⟨wa, hwa⟩ : ∃ wa, w.alloc (.cells #[] 73) = wa := ⟨_, rfl⟩
  have HBa : Hid (Below w.heap.size w wa) := by rw [← hwa]; exact alloc_below w _
  have HD : Hid (Dct wa B d x D) := hD.keep HBa.out
  have hc := HD.out.cseed
  have HOf := fun w => Of_hsh x k w hks hD.seed
  have HLf := fun w hD => leafOf_any B d x D f (hsh x k) w hD hf hi (hsh_lt x k)
  have HL : Hid (Leaf w B x f) := hD.leaf f hf
  have hmx := HL.out.max
  have HKS : Hid (k.size ≤ maxLen) := hks
  generalize hm : f.ts.length = m at hmx
  have HM : Hid (f.ts.length = m) := hm
  generalize hsh x k = h at HOf HLf
  clear hD hk hks hm hi h2 h3 eL hf
  go_enter Tryz.func52, Tryz.ntmps52
  go_wp2_with fail
  refine (HOf _).mono ?_
  rintro e w9 ⟨rfl, rfl⟩
  go_wp2_with fail
  refine (HLf _ HD.out).mono ?_
  rintro e w1 ⟨rfl, hb1⟩
  have HB1 := step_below HBa hb1
  have hc1 := (HL.out.keep HB1.out).tabs
  rw [HM.out] at hc1
  clear HOf HLf hb1 hc
  go_wp2
  go_loopg [7, 8, 9, 23] m (fun q tv vv bv iv wr => ∃ i : Nat, i + q = m ∧ iv = .int .i64 i ∧ Hid (k ∉ keysOf (tsEs (f.ts.take i))) ∧ Hid (Below w.heap.size w wr))
  case atStart => exact ⟨0, by omega, rfl, (by simp [tsEs] : k ∉ _), HB1⟩
  case round =>
    obtain ⟨i, hi, rfl, HNo, HB⟩ := hrel
    by_cases h8 : (i : Int) < m
    · obtain ⟨t, ht, htm⟩ := get_of_lt (l := f.ts) (i := i) (by have := HM.out; omega)
      have hcc := (HL.out.keep HB.out).at ht
      have HTab : Hid (Tab wr B t.p t.b x t.G t.z) := (HL.out.keep HB.out).tab t htm
      by_cases hin : k ∈ (ents t.z).map (·.1)
      · obtain ⟨⟨k0, v'⟩, hv, rfl⟩ := List.mem_map.1 hin
        have hvv : v' = v := val_one HL.out.key (List.mem_flatMap.2 ⟨t, htm, hv⟩) HK.out
        subst hvv
        have hG := Get_some _ _ _ _ _ _ k0 v' _ HTab.out HKS.out hv
        clear ht htm hin hv
        go_wp2_with fail
        refine hG.mono ?_
        rintro e w2 ⟨rfl, hb2⟩
        have HB0 := step_below HB hb2
        have HB2 : Hid (Below w.heap.size w (w2.alloc (.cells #[] 73))) := HB0.out.trans ((alloc_below w2 _).mono HB0.out.size)
        clear hb2 hG
        go_wp2
        exact bodyPost_ret (v := .tuple #[.agg #[], .bool true]) (by simp [results, Tryz.results52, go_sem]) rfl ⟨rfl, HB2.out⟩
      · have hG := Get_none _ _ _ _ _ _ k _ HTab.out HKS.out hin
        have HNo1 : Hid (k ∉ keysOf (tsEs (f.ts.take (i + 1)))) := by
          show k ∉ _
          rw [take_more ht, tsEs_append, keysOf_append, tsEs_one, List.mem_append]
          exact fun h => h.elim HNo.out hin
        clear ht htm hin
        go_wp2_with fail
        refine hG.mono ?_
        rintro e w2 ⟨rfl, hb2⟩
        have HB0 := step_below HB hb2
        have HB2 : Hid (Below w.heap.size w (w2.alloc (.cells #[] 73))) := HB0.out.trans ((alloc_below w2 _).mono HB0.out.size)
        clear hb2 hG
        go_wp2
        go_roundg (gk - 1)
        case measure => omega
        case rel => exact ⟨i + 1, by omega, by go_num, HNo1, HB2⟩
    · exact absurd (List.mem_map.2 ⟨_, HK.out, rfl⟩) (by have := HNo.out; rw [List.take_of_length_le (by have := HM.out; omega)] at this; exact this)
set_option maxHeartbeats 4000000 in
theorem Get_dnone (B d x : Nat) (D : Dg) (k : ByteArray) (w : World) (hD : Dct w B d x D) (hks : k.size ≤ maxLen) (hk : k ∉ keysOf D.es) :
    Calls Tryz.prog 52 #[ptr d, .string k] w fun e w' => e = .returned (.tuple #[.agg #[], .bool false]) ∧ Below w.heap.size w w' := by
  obtain ⟨La, f, Lc, eL, hi, h2, h3⟩ := hD.parts (hsh x k)
  have hf : f ∈ D.L := by rw [eL]; simp
  have HK : Hid (k ∉ keysOf f.es) := fun h => hk ((hD.memk eL h2 h3).2 h)
  obtain ⟨wa, hwa⟩ : ∃ wa, w.alloc (.cells #[] 73) = wa := ⟨_, rfl⟩
  have HBa : Hid (Below w.heap.size w wa) := by rw [← hwa]; exact alloc_below w _
  have HD : Hid (Dct wa B d x D) := hD.keep HBa.out
  have hc := HD.out.cseed
  have HOf := fun w => Of_hsh x k w hks hD.seed
  have HLf := fun w hD => leafOf_any B d x D f (hsh x k) w hD hf hi (hsh_lt x k)
  have HL : Hid (Leaf w B x f) := hD.leaf f hf
  have hmx := HL.out.max
  have HKS : Hid (k.size ≤ maxLen) := hks
  generalize hm : f.ts.length = m at hmx
  have HM : Hid (f.ts.length = m) := hm
  generalize hsh x k = h at HOf HLf
  clear hD hk hks hm hi h2 h3 eL hf
  go_enter Tryz.func52, Tryz.ntmps52
  go_wp2_with fail
  refine (HOf _).mono ?_
  rintro e w9 ⟨rfl, rfl⟩
  go_wp2_with fail
  refine (HLf _ HD.out).mono ?_
  rintro e w1 ⟨rfl, hb1⟩
  have HB1 := step_below HBa hb1
  have hc1 := (HL.out.keep HB1.out).tabs
  rw [HM.out] at hc1
  clear HOf HLf hb1 hc
  go_wp2
  go_loopg [7, 8, 9, 23] m (fun q tv vv bv iv wr => ∃ i : Nat, i + q = m ∧ iv = .int .i64 i ∧ Hid (Below w.heap.size w wr))
  case atStart => exact ⟨0, by omega, rfl, HB1⟩
  case round =>
    obtain ⟨i, hi, rfl, HB⟩ := hrel
    by_cases h8 : (i : Int) < m
    · obtain ⟨t, ht, htm⟩ := get_of_lt (l := f.ts) (i := i) (by have := HM.out; omega)
      have hcc := (HL.out.keep HB.out).at ht
      have hG := Get_none _ _ _ _ _ _ k _ ((HL.out.keep HB.out).tab t htm) HKS.out (not_in_tab HK.out htm)
      clear ht htm
      go_wp2_with fail
      refine hG.mono ?_
      rintro e w2 ⟨rfl, hb2⟩
      have HB0 := step_below HB hb2
      have HB2 : Hid (Below w.heap.size w (w2.alloc (.cells #[] 73))) := HB0.out.trans ((alloc_below w2 _).mono HB0.out.size)
      clear hb2 hG
      go_wp2
      go_roundg (gk - 1)
      case measure => omega
      case rel => exact ⟨i + 1, by omega, by go_num, HB2⟩
    · have HB9 : Hid (Below w.heap.size w (wr.alloc (.cells #[] 73))) := HB.out.trans ((alloc_below wr _).mono HB.out.size)
      go_wp2
      exact bodyPost_ret (v := .tuple #[.agg #[], .bool false]) (by simp [results, Tryz.results52, go_sem]) rfl ⟨rfl, HB9.out⟩

/-- The leaves in the order of their places. -/
def ordU (L : List Lf) (n : Nat) : List Lf := (List.range n).filterMap fun i => L.find? fun f => decide (f.q = i)
theorem Dct.same {w : World} {B d x : Nat} {D : Dg} (h : Dct w B d x D) {f u : Lf} (hf : f ∈ D.L) (hu : u ∈ D.L) {i : Nat} (h1 : isIn f.pt i = true) (h2 : isIn u.pt i = true) : f = u := by
  obtain ⟨j, hj, rfl⟩ := List.getElem_of_mem hf
  obtain ⟨k, hk, rfl⟩ := List.getElem_of_mem hu
  have hl : D.sh.length = D.L.length := List.length_map ..
  have e1 : D.sh[j]'(by omega) = D.L[j].pt := by simp [Dg.sh, shL]
  have e2 : D.sh[k]'(by omega) = D.L[k].pt := by simp [Dg.sh, shL]
  have := h.shp.one (i := j) (j := k) (by omega) (by omega) (h := i) (by rw [e1]; exact h1) (by rw [e2]; exact h2)
  subst this
  rfl
theorem Dct.self {w : World} {B d x : Nat} {D : Dg} (h : Dct w B d x D) {f : Lf} (hf : f ∈ D.L) : isIn f.pt f.q = true := isIn_self (h.lef hf).2.2
theorem Dct.find {w : World} {B d x : Nat} {D : Dg} (h : Dct w B d x D) {f : Lf} (hf : f ∈ D.L) : D.L.find? (fun u => decide (u.q = f.q)) = some f := by
  have : (D.L.find? (fun u => decide (u.q = f.q))).isSome = true := by rw [List.find?_isSome]; exact ⟨f, hf, by simp⟩
  obtain ⟨u, hu⟩ := Option.isSome_iff_exists.1 this
  have h1 := List.mem_of_find?_eq_some hu
  have h2 : u.q = f.q := by simpa using List.find?_some hu
  rw [hu]
  have := h.self h1
  rw [h2] at this
  rw [h.same h1 hf this (h.self hf)]
/-- One place more. -/
theorem Dct.ord_step {w : World} {B d x : Nat} {D : Dg} (h : Dct w B d x D) {f : Lf} (hf : f ∈ D.L) {i : Nat} (hi : isIn f.pt i = true) : ordU D.L (i + 1) = ordU D.L i ++ (if i = f.q then [f] else []) := by
  unfold ordU
  rw [List.range_succ, List.filterMap_append]
  congr 1
  by_cases e : i = f.q
  · subst e
    rw [if_pos rfl]
    simp only [List.filterMap_cons, List.filterMap_nil]
    rw [h.find hf]
  · rw [if_neg e]
    have : D.L.find? (fun u => decide (u.q = i)) = none := by
      rw [List.find?_eq_none]
      intro u hu hq
      have hq' := of_decide_eq_true hq
      have h1 := h.self hu
      rw [hq'] at h1
      have := h.same hu hf h1 hi
      subst this
      exact e hq'.symm
    simp only [List.filterMap_cons, List.filterMap_nil, this]
theorem Dct.ord_perm {w : World} {B d x : Nat} {D : Dg} (h : Dct w B d x D) : (ordU D.L (2 ^ D.g)).Perm D.L := by
  have hn : D.L.Nodup := by
    have h1 := h.shp.dis
    unfold Dg.sh shL at h1
    rw [List.pairwise_map] at h1
    unfold List.Nodup
    refine List.Pairwise.imp_of_mem ?_ h1
    intro a b ha _ hab e
    subst e
    have := hab _ (h.self ha)
    rw [h.self ha] at this
    cases this
  refine (List.perm_ext_iff_of_nodup ?_ hn).2 fun f => ?_
  · unfold ordU List.Nodup
    rw [List.pairwise_filterMap]
    refine List.Pairwise.imp ?_ List.nodup_range
    intro i j hij u hu v hv e
    subst e
    have h1 : u.q = i := by simpa using List.find?_some hu
    have h2 : u.q = j := by simpa using List.find?_some hv
    exact hij (h1.symm.trans h2)
  · unfold ordU
    rw [List.mem_filterMap]
    constructor
    · rintro ⟨i, -, hi⟩
      exact List.mem_of_find?_eq_some hi
    · intro hf
      have hl := h.lef hf
      exact ⟨f.q, List.mem_range.2 (Nat.lt_of_lt_of_le hl.2.2 (Nat.pow_le_pow_right (by decide) hl.1)), h.find hf⟩
theorem ordU_le (L : List Lf) (n : Nat) : (ordU L n).length ≤ n := by
  unfold ordU
  have := List.length_filterMap_le (fun i => L.find? fun f => decide (f.q = i)) (List.range n)
  rwa [List.length_range] at this
theorem Dct.find_leaf {w : World} {B d x : Nat} {D : Dg} (h : Dct w B d x D) (hh : Nat) : ∃ f, f ∈ D.L ∧ isIn f.pt hh = true := by
  obtain ⟨a, f, c, e, h1, -⟩ := h.parts hh
  exact ⟨f, by rw [e]; simp, h1⟩

set_option maxHeartbeats 4000000 in
theorem leaves_any (B d x : Nat) (D : Dg) (w : World) (hD : Dct w B d x D) :
    Calls Tryz.prog 66 #[ptr d] w fun e w' => Below w.heap.size w w' ∧ ∃ a n c, e = .returned (.slice a n c) ∧ OwnP w' w.heap.size 96 a n c ((ordU D.L (2 ^ D.g)).map Lf.a) := by
  have HD : Hid (Dct w B d x D) := hD
  have hc := hD.cpl
  have hp := hD.pow
  have HP : Hid (∀ i, i < 2 ^ D.g → i < 65536) := fun i hi => by omega
  generalize hm : 2 ^ D.g = m at hc hp
  have HM : Hid (2 ^ D.g = m) := hm
  have HO : Hid (OwnP w w.heap.size 96 none 0 0 ((ordU D.L 0).map Lf.a)) := OwnR.nil _ _ _ _
  clear hD hm
  go_enter Tryz.func66, Tryz.ntmps66
  go_wp2
  go_loopg [3, 4, 5, 11] m (fun q sv pv lv iv wr => ∃ (i : Nat) (a : Option Addr) (n c : Nat), i + q = m ∧ iv = .int .i64 i ∧ sv = .slice a n c ∧ Hid (OwnP wr w.heap.size 96 a n c ((ordU D.L i).map Lf.a)) ∧ Hid (Below w.heap.size w wr))
  case atStart => exact ⟨0, none, 0, 0, by omega, rfl, rfl, HO, Below.refl _ _⟩
  case round =>
    clear HO
    obtain ⟨i, a, n, c, hi, rfl, rfl, HO, HB⟩ := hrel
    by_cases h8 : (i : Int) < m
    · obtain ⟨f, hf, hin⟩ := HD.out.find_leaf i
      have hDr := HD.out.keep HB.out
      have hpl := HD.out.dir f hf i (by rw [HM.out]; omega) hin
      have hcell := OwnP.cell hDr.row hpl
      have hown := (hDr.leaf f hf).own
      have hle := HD.out.lef hf
      have HS := HD.out.ord_step hf hin
      have HN1 : Hid (n + 1 ≤ 1000000) := by
        have h1 := OwnP.len HO.out
        have h2 := ordU_le D.L i
        rw [List.length_map] at h1
        show _ ≤ _
        omega
      have hq : i / 2 ^ f.l = 0 ↔ i = f.q := by
        rw [isIn_iff] at hin
        simp only [Lf.pt] at hin
        constructor
        · intro h
          rw [← hin, Nat.mod_eq_of_lt]
          rcases Nat.lt_or_ge i (2 ^ f.l) with h1 | h1
          · exact h1
          · have := Nat.div_pos h1 (pow_pos f.l); omega
        · intro h
          rw [Nat.div_eq_of_lt]
          have := hle.2.2
          omega
      have hle16 := hle.2.1
      generalize f.l = l at hown hq hle16
      obtain ⟨z, hz⟩ : ∃ z, i / 2 ^ l = z := ⟨_, rfl⟩
      have hzz : (i : Int) / 2 ^ l = (z : Nat) := by rw [← hz]; simp
      rw [hz] at hq
      clear hz hDr hpl hle hin hf
      have hsz := HB.out.size
      by_cases e : i = f.q
      · rw [if_pos e, ] at HS
        have HS1 : Hid ((ordU D.L (i + 1)).map Lf.a = (ordU D.L i).map Lf.a ++ [f.a]) := by show _ = _; rw [HS, List.map_append]; rfl
        obtain rfl : z = 0 := hq.2 e
        generalize f.a = fa at hcell hown HS1
        clear HS hq e
        replace hzz : (i : Int) / 2 ^ l = 0 := hzz
        go_wp2_with (at_builtin; refine append_r rfl (.tmp 23) (.tmp 25) rfl eltL w.heap.size rfl (OwnR.keep HO.out (alloc_below wr _)) [ptr fa] rfl rfl (by intro j u hu; cases j with | zero => (rw [add_flat]; simp only [World.cell?, heap_alloc_new]; exact hu) | succ j => simp at hu) (by simp [Value.oneCell']) (by decide) (by have := HN1.out; omega) (by have := HN1.out; unfold maxLen; omega) (Nat.le_trans hsz (alloc_below wr _).size) ?_; intro a3 n3 c3 w3 hn3 HO3 HG3 HW3; have HB3 : Hid (Below w.heap.size w w3) := (HB.out.trans ((alloc_below wr _).mono hsz)).trans ((OwnR.keep HO.out (alloc_below wr _)).below HG3.out (Nat.le_trans hsz (alloc_below wr _).size)))
        go_roundg (gk - 1)
        case measure => omega
        case rel => exact ⟨i + 1, _, _, _, by omega, by go_num, rfl, by rw [HS1.out, ← hn3]; show OwnP _ _ _ _ _ _ _; unfold OwnP; rw [pcells_append]; exact HO3.out, HB3⟩
      · rw [if_neg e, List.append_nil] at HS
        have HS1 : Hid (ordU D.L (i + 1) = ordU D.L i) := HS
        have hz0 : ((z : Int) == 0) = false := by simp; intro h; exact e (hq.1 h)
        generalize f.a = fa at hcell hown
        clear HS hq e
        go_wp2
        go_roundg (gk - 1)
        case measure => omega
        case rel => exact ⟨i + 1, _, _, _, by omega, by go_num, rfl, by rw [HS1.out]; exact HO, HB⟩
    · have : i = m := by omega
      subst this
      go_wp2
      go_ret
      exact ⟨HB.out, _, _, _, rfl, HO.out⟩
end Go.Proofs.YtkohjejfkbaffaaGreat.Dk

namespace Go.Proofs.YtkohjejfkbaffaaGreat.Dk
open Go.RowKit Go.PlainAid

set_option maxHeartbeats 4000000 in
theorem Keys_dict (B d x : Nat) (D : Dg) (w : World) (hD : Dct w B d x D) :
    Calls Tryz.prog 44 #[ptr d] w fun e w' => Below w.heap.size w w' ∧ ∃ a n c, e = .returned (.slice a n c) ∧ OwnS w' w.heap.size a n c (keysOf (esL (ordU D.L (2 ^ D.g)))) := by
  have HD : Hid (Dct w B d x D) := hD
  have hLs := leaves_any B d x D w hD
  have HPm : Hid ((ordU D.L (2 ^ D.g)).Perm D.L) := hD.ord_perm
  have HOL := ordU_le D.L (2 ^ D.g)
  have hpw := hD.pow
  have HTot : Hid ((esL (ordU D.L (2 ^ D.g))).length ≤ 1000000) := by
    have h1 := (HPm.out.flatMap_right Lf.es).length_eq
    have h2 := hD.le
    unfold Dg.es esL at h2
    unfold esL
    show _ ≤ _
    omega
  generalize ordU D.L (2 ^ D.g) = Lo at hLs HPm HTot HOL ⊢
  clear hD
  go_enter Tryz.func44, Tryz.ntmps44
  go_wp2_with fail
  refine hLs.mono ?_
  rintro e w1 ⟨hb1, al, nl, cl, rfl, hO1⟩
  have HB1 : Hid (Below w.heap.size w w1) := hb1
  have HOl : Hid (OwnP w1 w.heap.size 96 al nl cl (Lo.map Lf.a)) := hO1
  have HNl : Hid (Lo.length = nl) := by have := OwnP.len hO1; rw [List.length_map] at this; exact this
  have hnl : nl ≤ 65536 := by have := HNl.out; omega
  have HO : Hid (OwnS w1 w1.heap.size none 0 0 (keysOf (esL (Lo.take 0)))) := OwnR.nil _ _ _ _
  clear hb1 hO1 hLs HOL hpw
  go_wp2
  go_loopg [3, 5, 9] nl (fun q sv lv iv wr => ∃ (i : Nat) (a : Option Addr) (n c : Nat), i + q = nl ∧ iv = .int .i64 i ∧ sv = .slice a n c ∧ Hid (OwnS wr w1.heap.size a n c (keysOf (esL (Lo.take i)))) ∧ Hid (Below w1.heap.size w1 wr))
  case atStart => exact ⟨0, none, 0, 0, by omega, rfl, rfl, HO, Below.refl _ _⟩
  case round =>
    clear HO
    obtain ⟨i, a, n, c, hi, rfl, rfl, HO, HB⟩ := hrel
    by_cases h8 : (i : Int) < nl
    · obtain ⟨f, hf, hfm⟩ := get_of_lt (l := Lo) (i := i) (by have := HNl.out; omega)
      have hfD : f ∈ D.L := HPm.out.mem_iff.1 hfm
      have hBw : Below w.heap.size w wr := HB1.out.trans (HB.out.mono HB1.out.size)
      have hDr := HD.out.keep hBw
      obtain ⟨gl, rfl, -⟩ := OwnR.at HOl.out (by omega)
      have hcell := OwnP.cell (OwnR.keep HOl.out HB.out) (j := i) (p := f.a) (by rw [List.getElem?_map, hf]; rfl)
      have hK := keys_any B x f wr (hDr.leaf f hfD) (hDr.les hfD)
      have HS : Hid (keysOf (esL (Lo.take (i + 1))) = keysOf (esL (Lo.take i)) ++ keysOf f.es) := by show _ = _; rw [take_more hf, esL_append, keysOf_append, esL_one]
      have HLe : Hid ((keysOf (esL (Lo.take (i + 1)))).length ≤ 1000000) := by
        have h1 := HTot.out
        rw [← List.take_append_drop (i + 1) Lo, esL_append, List.length_append] at h1
        show _ ≤ _
        rw [List.length_map]
        omega
      rw [HS.out] at HLe
      generalize keysOf f.es = ks at hK HS HLe
      generalize f.a = fa at hcell hK
      clear hf hfm hfD hBw hDr
      go_wp2_with fail
      refine hK.mono ?_
      rintro e w2 ⟨hb2, a1, n1, c1, rfl, hO1⟩
      have HO1 : Hid (OwnS w2 wr.heap.size a1 n1 c1 ks) := hO1
      have HB2 := step_below HB hb2
      have HO0 : Hid (OwnS w2 w1.heap.size a n c (keysOf (esL (Lo.take i)))) := OwnR.keep HO.out hb2
      have HN1 : Hid (n + n1 ≤ 1000000) := by
        have h1 := OwnS.len HO.out
        have h2 := OwnS.len hO1
        have h3 := HLe.out
        rw [List.length_append] at h3
        show _ ≤ _
        omega
      clear hb2 hO1 hK
      go_wp2_with (at_builtin; refine append_p rfl (.tmp 13) (.tmp 15) rfl eltS w1.heap.size rfl HO0.out rfl HO1.out.rd scells_one (by have := HN1.out; omega) (by have := HN1.out; unfold maxLen; omega) HB2.out.size ?_; intro a3 n3 c3 w3 hn3 HO3 HG3; have HB3 : Hid (Below w1.heap.size w1 w3) := HB2.out.trans (HO0.out.below HG3.out HB2.out.size))
      go_roundg (gk - 1)
      case measure => omega
      case rel => exact ⟨i + 1, _, _, _, by omega, by go_num, rfl, by rw [HS.out, ← hn3]; rw [← scells_append] at HO3; exact HO3, HB3⟩
    · have HT : Hid (Lo.take i = Lo) := by show _ = _; rw [List.take_of_length_le (by have := HNl.out; omega)]
      rw [HT.out] at HO
      go_wp2
      go_ret
      exact ⟨HB1.out.trans (HB.out.mono HB1.out.size), _, _, _, rfl, HO.out.low HB1.out.size⟩

/-- The keys of a cursor's bucket. -/
def bkt (x g : Nat) (ks : List ByteArray) (c : Nat) : List ByteArray := ks.filter fun k => decide (hsh x k % 2 ^ g = c % 2 ^ g)
theorem bkt_append (x g : Nat) (a b : List ByteArray) (c : Nat) : bkt x g (a ++ b) c = bkt x g a c ++ bkt x g b c := List.filter_append ..
theorem Dct.bkt_leaf {w : World} {B d x : Nat} {D : Dg} (h : Dct w B d x D) {La Lc : List Lf} {f : Lf} {c : Nat} (e : D.L = La ++ f :: Lc) (h2 : ∀ u ∈ La, isIn u.pt c = false) (h3 : ∀ u ∈ Lc, isIn u.pt c = false) : bkt x D.g (keysOf D.es) c = bkt x D.g (keysOf f.es) c := by
  have hno : ∀ (M : List Lf), (∀ u ∈ M, u ∈ D.L) → (∀ u ∈ M, isIn u.pt c = false) → bkt x D.g (keysOf (esL M)) c = [] := by
    intro M hM hc
    unfold bkt
    rw [List.filter_eq_nil_iff]
    intro k hk hd
    have hd' := of_decide_eq_true hd
    obtain ⟨e, he, rfl⟩ := List.mem_map.1 hk
    obtain ⟨u, hu, he⟩ := List.mem_flatMap.1 he
    have h1 := h.own u (hM u hu) e he
    rw [← isIn_low (h.lef (hM u hu)).1, hd', isIn_low (h.lef (hM u hu)).1, hc u hu] at h1
    cases h1
  unfold Dg.es
  rw [e, esL_append, esL_cons, keysOf_append, keysOf_append, bkt_append, bkt_append, hno La (fun u hu => by rw [e]; simp [hu]) h2, hno Lc (fun u hu => by rw [e]; simp [hu]) h3, List.nil_append, List.append_nil]

set_option maxHeartbeats 4000000 in
theorem Bucket_dict (B d x : Nat) (D : Dg) (c : Nat) (w : World) (hD : Dct w B d x D) (hc : c < 18446744073709551616) :
    Calls Tryz.prog 96 #[ptr d, .int .u64 c] w fun e w' => Below w.heap.size w w' ∧ ∃ a n cp, e = .returned (.slice a n cp) ∧ OwnS w' w.heap.size a n cp (bkt x D.g (keysOf D.es) c) := by
  obtain ⟨La, f, Lc, eL, hin, h2, h3⟩ := hD.parts c
  rw [hD.bkt_leaf eL h2 h3]
  have hf : f ∈ D.L := by rw [eL]; simp
  have HD : Hid (Dct w B d x D) := hD
  have HL : Hid (Leaf w B x f) := hD.leaf f hf
  have HDe := fun w hD => Depth_any B d x D w hD
  have hg := hD.shp.le
  have HBu := fun w => Bucket_any c D.g w hc (by omega) (by omega)
  rw [low_dep, dep_nat hg] at HBu
  have HK := fun w hL => keys_any B x f w hL (hD.les hf)
  obtain ⟨hpl, hlt⟩ := hD.place hf hin
  have hp := hD.pow
  have hcp := hD.cpl
  have hrow := OwnP.cell hD.row hpl
  have HSd : Hid (∀ w', Below w.heap.size w w' → w'.cell? ⟨d, 0, none⟩ = some (.int .u64 (x : Nat))) := fun w' hb => (HD.out.keep hb).cseed
  have HLe : Hid ((keysOf f.es).length ≤ 1000000) := by have := hD.les hf; show _ ≤ _; rw [List.length_map]; exact this
  have HSz : Hid (∀ k ∈ keysOf f.es, k.size ≤ maxLen) := by
    show ∀ k ∈ keysOf f.es, k.size ≤ maxLen
    intro k hk
    obtain ⟨e, he, rfl⟩ := List.mem_map.1 hk
    obtain ⟨t, ht, he⟩ := List.mem_flatMap.1 he
    exact (HL.out.tab t ht).siz e he
  have hx := hD.seed
  have HLow := fun h w (hh : h < 18446744073709551616) => Low_any h D.g w hh (by omega) (by omega)
  generalize keysOf f.es = ks at HK HLe HSz ⊢
  have HBk : Hid (∀ i k, ks[i]? = some k → bkt x D.g (ks.take (i + 1)) c = bkt x D.g (ks.take i) c ++ (if hsh x k % 2 ^ D.g = c % 2 ^ D.g then [k] else [])) := by
    intro i k hk
    rw [take_more hk, bkt_append]
    congr 1
    unfold bkt
    by_cases e : hsh x k % 2 ^ D.g = c % 2 ^ D.g
    · rw [if_pos e, List.filter_cons_of_pos (by simpa using e)]; rfl
    · rw [if_neg e, List.filter_cons_of_neg (by simpa using e)]; rfl
  have HOd := fun h => low_dep h D.g
  rw [dep_nat hg] at HOd
  simp only [HOd] at HLow
  clear HOd
  obtain ⟨g, hgg⟩ : ∃ g, D.g = g := ⟨_, rfl⟩
  rw [hgg] at hg HBu hpl hlt hp hcp hrow HLow HBk ⊢
  generalize f.a = fa at HK hrow
  have hmod : ∀ h, h % 2 ^ g < 65536 := fun h => Nat.lt_of_lt_of_le (Nat.mod_lt _ (pow_pos _)) hp
  obtain ⟨pl, hplc⟩ : ∃ pl, c % 2 ^ g = pl := ⟨_, rfl⟩
  rw [hplc] at HBu hlt hrow HBk
  have HPL : Hid (c % 2 ^ g = pl) := hplc
  obtain ⟨P, hP⟩ : ∃ P, 2 ^ g = P := ⟨_, rfl⟩
  rw [hP] at hlt hcp hp
  have hplz : (pl : Int) < P := by omega
  have HDe2 : ∀ w, Dct w B d x D → Calls Tryz.prog 80 #[ptr d] w fun e w' => e = .returned (.int .i64 (g : Nat)) ∧ w' = w := fun w hD => by rw [← hgg]; exact HDe w hD
  clear HDe hgg hD hpl hin h2 h3 eL hf hplc hP
  go_enter Tryz.func96, Tryz.ntmps96
  go_wp2_with fail
  refine (HDe2 _ HD.out).mono ?_
  rintro e w ⟨rfl, rfl⟩
  go_wp2_with fail
  refine (HBu _).mono ?_
  rintro e w ⟨rfl, rfl⟩
  go_wp2_with fail
  refine (HK _ HL.out).mono ?_
  rintro e w1 ⟨hb1, ak, nk, ck, rfl, hO1⟩
  have HB1 : Hid (Below w.heap.size w w1) := hb1
  have HOk : Hid (OwnS w1 w.heap.size ak nk ck ks) := hO1
  have HNk : Hid (ks.length = nk) := OwnS.len hO1
  have hnk : nk ≤ 1000000 := by have := HNk.out; have := HLe.out; omega
  have HO : Hid (OwnS w1 w1.heap.size none 0 0 (bkt x g (ks.take 0) c)) := OwnR.nil _ _ _ _
  clear hb1 hO1 HK HDe2 HBu hcp hrow
  go_wp2
  go_loopg [7, 9, 24] nk (fun q sv kv iv wr => ∃ (i : Nat) (a : Option Addr) (n cp : Nat), i + q = nk ∧ iv = .int .i64 i ∧ sv = .slice a n cp ∧ Hid (OwnS wr w1.heap.size a n cp (bkt x g (ks.take i) c)) ∧ Hid (Below w1.heap.size w1 wr))
  case atStart => exact ⟨0, none, 0, 0, by omega, rfl, rfl, HO, Below.refl _ _⟩
  case round =>
    clear HO
    obtain ⟨i, a, n, cp, hi, rfl, rfl, HO, HB⟩ := hrel
    by_cases h8 : (i : Int) < nk
    · obtain ⟨k, hk, hkm⟩ := get_of_lt (l := ks) (i := i) (by have := HNk.out; omega)
      obtain ⟨gk', hgk, hcell⟩ := OwnS.cell (OwnR.keep HOk.out HB.out) (j := i) (by omega)
      subst hgk
      rw [List.getD_eq_getElem?_getD, hk] at hcell
      simp only [Option.getD_some] at hcell
      have hsd := HSd.out wr (HB1.out.trans (HB.out.mono HB1.out.size))
      have hOf := fun w => Of_hsh x k w (HSz.out k hkm) hx
      have hLw := fun w => HLow (hsh x k) w (hsh_lt x k)
      have hmd := hmod (hsh x k)
      have HS := HBk.out i k hk
      have HN1 : Hid (n + 1 ≤ 2000000) := by
        have h1 := OwnS.len HO.out
        have h2 : (bkt x g (ks.take i) c).length ≤ (ks.take i).length := List.length_filter_le _ _
        rw [List.length_take] at h2
        show _ ≤ _
        omega
      generalize hsh x k = h at hOf hLw hmd HS
      have hsz := HB.out.size
      clear hk hkm
      by_cases e : h % 2 ^ g = pl
      · rw [if_pos e] at HS
        have HS1 : Hid (bkt x g (ks.take (i + 1)) c = bkt x g (ks.take i) c ++ [k]) := HS
        rw [e] at hLw
        clear HS e hmd
        go_wp2_with fail
        refine (hOf _).mono ?_
        rintro e wr ⟨rfl, rfl⟩
        go_wp2_with fail
        refine (hLw _).mono ?_
        rintro e wr ⟨rfl, rfl⟩
        go_wp2_with (at_builtin; refine append_r rfl (.tmp 38) (.tmp 40) rfl eltS w1.heap.size rfl (OwnR.keep HO.out (alloc_below wr _)) [.string k] rfl rfl (by intro j u hu; cases j with | zero => (rw [add_flat]; simp only [World.cell?, heap_alloc_new]; exact hu) | succ j => simp at hu) (by simp [Value.oneCell']) (by decide) (by have := HN1.out; omega) (by have := HN1.out; unfold maxLen; omega) (Nat.le_trans hsz (alloc_below wr _).size) ?_; intro a3 n3 c3 w3 hn3 HO3 HG3 HW3; have HB3 : Hid (Below w1.heap.size w1 w3) := (HB.out.trans ((alloc_below wr _).mono hsz)).trans ((OwnR.keep HO.out (alloc_below wr _)).below HG3.out (Nat.le_trans hsz (alloc_below wr _).size)))
        go_roundg (gk - 1)
        case measure => omega
        case rel => exact ⟨i + 1, _, _, _, by omega, by go_num, rfl, by rw [HS1.out, ← hn3]; rw [show scells (bkt x g (ks.take i) c) ++ [.string k] = scells (bkt x g (ks.take i) c ++ [k]) by rw [scells_append]; rfl] at HO3; exact HO3, HB3⟩
      · rw [if_neg e, List.append_nil] at HS
        have HS1 : Hid (bkt x g (ks.take (i + 1)) c = bkt x g (ks.take i) c) := HS
        generalize h % 2 ^ g = y at hLw e hmd
        have hne : ((y : Int) == (pl : Int)) = false := by simp; omega
        clear HS e
        go_wp2_with fail
        refine (hOf _).mono ?_
        rintro e wr ⟨rfl, rfl⟩
        go_wp2_with fail
        refine (hLw _).mono ?_
        rintro e wr ⟨rfl, rfl⟩
        go_wp2
        go_roundg (gk - 1)
        case measure => omega
        case rel => exact ⟨i + 1, _, _, _, by omega, by go_num, rfl, by rw [HS1.out]; exact HO, HB⟩
    · have HT : Hid (ks.take i = ks) := by show _ = _; rw [List.take_of_length_le (by have := HNk.out; omega)]
      rw [HT.out] at HO
      go_wp2
      go_ret
      exact ⟨HB1.out.trans (HB.out.mono HB1.out.size), _, _, _, rfl, HO.out.low HB1.out.size⟩
end Go.Proofs.YtkohjejfkbaffaaGreat.Dk

namespace Go.Proofs.YtkohjejfkbaffaaGreat.Dk
open Go.RowKit Go.PlainAid

/-- Buckets, one behind the other, until enough were told. -/
def scanP (x g : Nat) (ks : List ByteArray) (cnt : Nat) : Nat → List ByteArray → Nat → List ByteArray × Nat
  | 0, acc, c => (acc, c)
  | n + 1, acc, c => if nxt g c = 0 ∨ cnt ≤ (acc ++ bkt x g ks c).length then (acc ++ bkt x g ks c, nxt g c) else scanP x g ks cnt n (acc ++ bkt x g ks c) (nxt g c)
/-- How many keys are asked for. -/
def cntC (n : Int) : Nat := if n < 1 then 1 else if 1000 < n then 1000 else n.toNat
theorem cntC_le (n : Int) : 1 ≤ cntC n ∧ cntC n ≤ 1000 := by
  unfold cntC
  split
  · omega
  · split <;> omega
theorem cntC_cases (n : Int) : (n < 1 ∧ cntC n = 1) ∨ (1000 < n ∧ cntC n = 1000) ∨ (1 ≤ n ∧ n ≤ 1000 ∧ n = (cntC n : Nat)) := by
  unfold cntC
  split
  · exact .inl ⟨by assumption, rfl⟩
  · split
    · exact .inr (.inl ⟨by assumption, rfl⟩)
    · exact .inr (.inr ⟨by omega, by omega, by omega⟩)
theorem bkt_le (x g : Nat) (ks : List ByteArray) (c : Nat) : (bkt x g ks c).length ≤ ks.length := List.length_filter_le _ _

set_option maxHeartbeats 4000000 in
theorem scan_loop (B d x : Nat) (D : Dg) (c0 cc : Nat) (count : Int) (w : World) (hD : Dct w B d x D) (hc : c0 < 18446744073709551616) (hcc : 1 ≤ cc ∧ cc ≤ 1000) (hcs : (count < 1 ∧ cc = 1) ∨ (1000 < count ∧ cc = 1000) ∨ (1 ≤ count ∧ count ≤ 1000 ∧ count = (cc : Nat))) :
    Calls Tryz.prog 76 #[ptr d, .int .u64 c0, .int .i64 count] w fun e w' => Below w.heap.size w w' ∧ ∃ a n cp, e = .returned (.tuple #[.slice a n cp, .int .u64 ((scanP x D.g (keysOf D.es) cc (10 * cc) [] c0).2 : Nat)]) ∧ OwnS w' w.heap.size a n cp (scanP x D.g (keysOf D.es) cc (10 * cc) [] c0).1 := by
  have HD : Hid (Dct w B d x D) := hD
  have hg := hD.shp.le
  have HDe : ∀ w, Dct w B d x D → Calls Tryz.prog 80 #[ptr d] w fun e w' => e = .returned (.int .i64 (D.g : Nat)) ∧ w' = w := fun w hD => Depth_any B d x D w hD
  have HBu := fun c w hD (hc : c < 18446744073709551616) => Bucket_dict B d x D c w hD hc
  have HNx := fun c w (hc : c < 18446744073709551616) => Next_any c D.g w hc (by omega) (by omega)
  rw [dep_nat hg] at HNx
  have HLe : Hid ((keysOf D.es).length ≤ 1000000) := by have := hD.le; show _ ≤ _; rw [List.length_map]; exact this
  have HNl : Hid (∀ c, nxt D.g c < 18446744073709551616) := fun c => by have h1 := nxt_lt D.g c; have h2 := hD.pow; omega
  generalize hR : scanP x D.g (keysOf D.es) cc (10 * cc) [] c0 = R
  have HR : Hid (scanP x D.g (keysOf D.es) cc (10 * cc) [] c0 = R) := hR
  generalize keysOf D.es = ks at HBu HLe HR
  generalize D.g = g at hg HDe HBu HNx HNl HR
  clear hD hR
  have HO : Hid (OwnS w w.heap.size none 0 0 []) := OwnR.nil _ _ _ _
  obtain ⟨hc1, hc2⟩ := hcc
  have hccz : (1 : Int) ≤ cc := by omega
  have hccy : (cc : Int) ≤ 1000 := by omega
  go_enter Tryz.func76, Tryz.ntmps76
  go_upto_region 1 with fail
  go_cut [2] from 9 to 11 (fun v wx => w = wx ∧ v = .int .i64 cc)
  case first =>
    clear HDe HBu HNx HLe HNl HR HO
    rcases hcs with ⟨h1, h2⟩ | ⟨h1, h2⟩ | ⟨h1, h1', h2⟩
    · subst h2
      go_wp2
      go_meet
      exact ⟨rfl, rfl⟩
    · subst h2
      go_wp2
      go_meet
      exact ⟨rfl, rfl⟩
    · subst h2
      go_wp2
      go_meet
      exact ⟨rfl, rfl⟩
  case rest =>
  obtain ⟨rfl, rfl⟩ := hcut
  clear hcs
  have HR0 : Hid (scanP x g ks cc (10 * cc) [] c0 = R) := HR
  obtain ⟨M, hM⟩ : ∃ M, 10 * cc = M := ⟨_, rfl⟩
  have hMz : 10 * (cc : Int) = (M : Nat) := by omega
  have hM4 : M ≤ 10000 := by omega
  rw [hM] at HR0
  clear HR hM
  go_wp2
  go_loopg [1, 8, 14] M (fun q cv sv iv wr => ∃ (i c n cp : Nat) (a : Option Addr) (acc : List ByteArray), i + q = M ∧ iv = .int .i64 i ∧ cv = .int .u64 c ∧ c < 18446744073709551616 ∧ sv = .slice a n cp ∧ n < 1000 ∧ Hid (OwnS wr w.heap.size a n cp acc) ∧ Hid (Below w.heap.size w wr) ∧ Hid (scanP x g ks cc q acc c = R))
  case atStart => exact ⟨0, c0, 0, 0, none, [], by omega, rfl, rfl, hc, rfl, by omega, HO, Below.refl _ _, HR0⟩
  case round =>
    clear HO HR0
    obtain ⟨i, c, n, cp, a, acc, hi, rfl, rfl, hc, rfl, hn, HO, HB, HR⟩ := hrel
    by_cases h8 : (i : Int) < M
    · obtain ⟨q, rfl⟩ : ∃ q, gk = q + 1 := ⟨gk - 1, by omega⟩
      have hB := HBu c wr (HD.out.keep HB.out) hc
      have HB0 : Hid ((bkt x g ks c).length ≤ 1000000) := Nat.le_trans (bkt_le x g ks c) HLe.out
      have hNx := fun w => HNx c w hc
      have hnl := HNl.out c
      have HRu : Hid ((if nxt g c = 0 ∨ cc ≤ (acc ++ bkt x g ks c).length then (acc ++ bkt x g ks c, nxt g c) else scanP x g ks cc q (acc ++ bkt x g ks c) (nxt g c)) = R) := HR.out
      generalize bkt x g ks c = bk at hB HB0 HRu
      generalize nxt g c = c1 at hNx hnl HRu
      clear HBu HNx HR
      go_wp2_with fail
      refine hB.mono ?_
      rintro e w1 ⟨hb1, a1, n1, cp1, rfl, hO1⟩
      have HO1 : Hid (OwnS w1 wr.heap.size a1 n1 cp1 bk) := hO1
      have HB1 := step_below HB hb1
      have HO0 : Hid (OwnS w1 w.heap.size a n cp acc) := OwnR.keep HO.out hb1
      have HN1 : Hid (n + n1 ≤ 2000000) := by
        have h2 := OwnS.len hO1
        have h3 := HB0.out
        show _ ≤ _
        omega
      clear hb1 hO1 hB HO HB
      go_wp2_with (at_builtin; refine append_p rfl (.tmp 16) (.tmp 19) rfl eltS w.heap.size rfl HO0.out rfl HO1.out.rd scells_one (by have := HN1.out; omega) (by have := HN1.out; unfold maxLen; omega) HB1.out.size ?_; intro a3 n3 c3 w3 hn3 HO3 HG3; have HB3 : Hid (Below w.heap.size w w3) := HB1.out.trans (HO0.out.below HG3.out HB1.out.size))
      refine (HDe _ (HD.out.keep HB3.out)).mono ?_
      rintro e w3 ⟨rfl, rfl⟩
      go_wp2_with fail
      refine (hNx _).mono ?_
      rintro e w3 ⟨rfl, rfl⟩
      rw [← scells_append] at HO3
      have HL3 : Hid ((acc ++ bk).length = n + n1) := by have := OwnS.len HO3.out; show _ = _; omega
      rw [hn3] at HO3
      have hnn : n + n1 ≤ 2000000 := HN1.out
      clear HO0 HO1 HB1 HG3 hNx HDe HN1 hn3
      by_cases h1 : c1 = 0
      · have HE : Hid ((acc ++ bk, c1) = R) := by have := HRu.out; rw [if_pos (.inl h1)] at this; exact this
        clear HRu
        subst h1
        go_wp2
        go_ret2
        refine ⟨HB3.out, a3, n + n1, c3, ?_, ?_⟩
        · rw [← HE.out]; rfl
        · rw [← HE.out]; exact HO3.out
      · have hz : ((c1 : Int) == 0) = false := by simp; omega
        by_cases h2 : cc ≤ n + n1
        · have HE : Hid ((acc ++ bk, c1) = R) := by have := HRu.out; rw [if_pos (.inr (by rw [HL3.out]; exact h2))] at this; exact this
          clear HRu
          have h2z : (cc : Int) ≤ (n : Int) + n1 := by omega
          clear h1 h2
          go_wp2
          go_ret2
          refine ⟨HB3.out, a3, n + n1, c3, ?_, ?_⟩
          · rw [← HE.out]; rfl
          · rw [← HE.out]; exact HO3.out
        · have HE : Hid (scanP x g ks cc q (acc ++ bk) c1 = R) := by have := HRu.out; rw [if_neg (by rw [HL3.out]; omega)] at this; exact this
          clear HRu
          have h2z : decide ((cc : Int) ≤ (n : Int) + n1) = false := decide_eq_false (by omega)
          have h3 : n + n1 < 1000 := by omega
          clear h1 h2
          go_wp2
          go_roundg q
          case measure => omega
          case rel => exact ⟨i + 1, c1, _, c3, a3, acc ++ bk, by omega, by go_num, rfl, hnl, rfl, h3, HO3, HB3, HE⟩
    · obtain rfl : gk = 0 := by omega
      have HE : Hid ((acc, c) = R) := HR.out
      clear HR HBu HNx HDe
      go_wp2
      go_ret2
      refine ⟨HB.out, a, n, cp, ?_, ?_⟩
      · rw [← HE.out]; rfl
      · rw [← HE.out]; exact HO.out
theorem Scan_dict (B d x : Nat) (D : Dg) (c : Nat) (count : Int) (w : World) (hD : Dct w B d x D) (hc : c < 18446744073709551616) :
    Calls Tryz.prog 76 #[ptr d, .int .u64 c, .int .i64 count] w fun e w' => Below w.heap.size w w' ∧ ∃ a n cp, e = .returned (.tuple #[.slice a n cp, .int .u64 ((scanP x D.g (keysOf D.es) (cntC count) (10 * cntC count) [] c).2 : Nat)]) ∧ OwnS w' w.heap.size a n cp (scanP x D.g (keysOf D.es) (cntC count) (10 * cntC count) [] c).1 :=
  scan_loop B d x D c (cntC count) count w hD hc (cntC_le count) (cntC_cases count)

/-- What Pick tells. -/
def pickK (D : Dg) (n : Nat) : ByteArray := (keysOf (esL (ordU D.L (2 ^ D.g)))).getD (n % D.es.length) ⟨#[]⟩
theorem Pick_none (B d x : Nat) (D : Dg) (n : Nat) (w : World) (hD : Dct w B d x D) (h0 : D.es.length = 0) :
    Calls Tryz.prog 45 #[ptr d, .int .u64 n] w fun e w' => e = .returned (.tuple #[.string ⟨#[]⟩, .bool false]) ∧ w' = w := by
  have hc := hD.ccnt
  rw [h0] at hc
  replace hc : w.cell? ⟨d, 1, none⟩ = some (.int .i64 0) := hc
  clear hD h0
  go_enter Tryz.func45, Tryz.ntmps45
  go_wp2
  go_ret2
  exact ⟨rfl, rfl⟩
set_option maxHeartbeats 4000000 in
theorem Pick_some (B d x : Nat) (D : Dg) (n : Nat) (w : World) (hD : Dct w B d x D) (h0 : 0 < D.es.length) (hn : n < 18446744073709551616) :
    Calls Tryz.prog 45 #[ptr d, .int .u64 n] w fun e w' => e = .returned (.tuple #[.string (pickK D n), .bool true]) ∧ Below w.heap.size w w' := by
  have HD : Hid (Dct w B d x D) := hD
  have hc := hD.ccnt
  have hLs := leaves_any B d x D w hD
  have HPm : Hid ((ordU D.L (2 ^ D.g)).Perm D.L) := hD.ord_perm
  have HOL := ordU_le D.L (2 ^ D.g)
  have hpw := hD.pow
  have hle := hD.le
  have HTot : Hid ((esL (ordU D.L (2 ^ D.g))).length = D.es.length) := (HPm.out.flatMap_right Lf.es).length_eq
  have HK : Hid (pickK D n = (keysOf (esL (ordU D.L (2 ^ D.g)))).getD (n % D.es.length) ⟨#[]⟩) := rfl
  generalize pickK D n = k at HK ⊢
  generalize ordU D.L (2 ^ D.g) = Lo at hLs HPm HTot HOL HK
  generalize hct : D.es.length = ct at hc h0 hle HTot HK
  have hmt : n % ct < ct := Nat.mod_lt _ h0
  have hmz : (n : Int) % (ct : Int) = ((n % ct : Nat) : Int) := by simp
  generalize n % ct = m at hmt hmz HK
  have hcz : ((ct : Int) == 0) = false := by simp; omega
  clear hD hct
  go_enter Tryz.func45, Tryz.ntmps45
  go_wp2_with fail
  refine hLs.mono ?_
  rintro e w1 ⟨hb1, al, nl, cl, rfl, hO1⟩
  have HB1 : Hid (Below w.heap.size w w1) := hb1
  have HOl : Hid (OwnP w1 w.heap.size 96 al nl cl (Lo.map Lf.a)) := hO1
  have HNl : Hid (Lo.length = nl) := by have := OwnP.len hO1; rw [List.length_map] at this; exact this
  have hnl : nl ≤ 65536 := by have := HNl.out; omega
  clear hb1 hO1 hLs HOL hpw hc hmz hcz
  go_wp2
  go_loopg [6, 8, 9, 26] nl (fun q av lv sv iv wr => ∃ i ah : Nat, i + q = nl ∧ iv = .int .i64 i ∧ av = .int .i64 ah ∧ Hid (ah + (esL (Lo.take i)).length = m) ∧ Hid (Below w1.heap.size w1 wr))
  case atStart => exact ⟨0, m, by omega, rfl, rfl, (by simp [esL] : m + (esL (Lo.take 0)).length = m), Below.refl _ _⟩
  case round =>
    obtain ⟨i, ah, hi, rfl, rfl, HA, HB⟩ := hrel
    by_cases h8 : (i : Int) < nl
    · obtain ⟨f, hf, hfm⟩ := get_of_lt (l := Lo) (i := i) (by have := HNl.out; omega)
      have hfD : f ∈ D.L := HPm.out.mem_iff.1 hfm
      have hDr := HD.out.keep (HB1.out.trans (HB.out.mono HB1.out.size))
      obtain ⟨gl, rfl, -⟩ := OwnR.at HOl.out (by omega)
      have hcell := OwnP.cell (OwnR.keep HOl.out HB.out) (j := i) (p := f.a) (by rw [List.getElem?_map, hf]; rfl)
      have hSz := size_any B x f wr (hDr.leaf f hfD) (hDr.les hfD)
      have hKy := keys_any B x f wr (hDr.leaf f hfD) (hDr.les hfD)
      have HS : Hid ((esL (Lo.take (i + 1))).length = (esL (Lo.take i)).length + f.es.length) := by show _ = _; rw [take_more hf, esL_append, List.length_append, esL_one]
      have hfl := hDr.les hfD
      have hah : ah ≤ 1000000 := by have := HA.out; omega
      have HKy : Hid (ah < f.es.length → k = (keysOf f.es).getD ah ⟨#[]⟩) := by
        intro hlt
        have h1 : Lo = Lo.take i ++ f :: Lo.drop (i + 1) := get_parts hf
        have h2 : keysOf (esL Lo) = keysOf (esL (Lo.take i)) ++ (keysOf f.es ++ keysOf (esL (Lo.drop (i + 1)))) := by
          conv => lhs; rw [h1, esL_append, esL_cons, keysOf_append, keysOf_append]
        have h3 := HA.out
        rw [HK.out, h2, List.getD_eq_getElem?_getD, List.getD_eq_getElem?_getD, List.getElem?_append_right (by rw [List.length_map]; omega), List.length_map, show m - (esL (Lo.take i)).length = ah by omega, List.getElem?_append_left (by rw [List.length_map]; exact hlt)]
      have HKl : Hid ((keysOf f.es).length = f.es.length) := List.length_map ..
      generalize keysOf f.es = ks at hKy HKy HKl
      generalize hfe : f.es.length = fl at hSz HS hfl HKy HKl
      generalize f.a = fa at hcell hSz hKy
      clear hf hfm hfD hDr hfe
      go_wp2_with fail
      refine hSz.mono ?_
      rintro e wr ⟨rfl, rfl⟩
      by_cases h9 : (fl : Int) ≤ ah
      · have HA1 : Hid (ah - fl + (esL (Lo.take (i + 1))).length = m) := by have := HA.out; have := HS.out; show _ = _; omega
        obtain ⟨ah2, ha2⟩ : ∃ ah2, ah - fl = ah2 := ⟨_, rfl⟩
        have haz : (ah : Int) - fl = (ah2 : Nat) := by omega
        rw [ha2] at HA1
        clear hKy HKy hSz ha2
        go_wp2
        go_roundg (gk - 1)
        case measure => omega
        case rel => exact ⟨i + 1, ah2, by omega, by go_num, rfl, HA1, HB⟩
      · have h9d : decide ((fl : Int) ≤ ah) = false := decide_eq_false h9
        have HE := HKy.out (by omega)
        have HKE : Hid (k = ks.getD ah ⟨#[]⟩) := HE
        clear HKy HE hSz
        go_wp2_with fail
        refine hKy.mono ?_
        rintro e w2 ⟨hb2, a2, n2, c2, rfl, hO2⟩
        have HB2 := step_below HB hb2
        have hn2 : (ah : Int) < n2 := by have := OwnS.len hO2; have := HKl.out; omega
        obtain ⟨g2, rfl, hc2⟩ := OwnS.cell hO2 (j := ah) (by omega)
        have HBw : Hid (Below w.heap.size w w2) := HB1.out.trans (HB2.out.mono HB1.out.size)
        rw [← HKE.out] at hc2
        clear hb2 hO2 hKy HB2
        go_wp2
        go_ret2
        exact ⟨rfl, HBw.out⟩
    · exact absurd HA.out (by have h1 := HTot.out; rw [List.take_of_length_le (by have := HNl.out; omega), h1]; omega)
end Go.Proofs.YtkohjejfkbaffaaGreat.Dk
