/- Texts that the others stand on. -/
import Derived.Test.YtmjeljldmmkcpaaGreatK6
import Derived.Test.YtmjeljldmmkcpaaGreatK13
import Derived.Test.YtmjeljldmmkcpaaGreatK7
import Derived.Laws.CopyOwn
import Derived.Lib.Overlaps
import Derived.Lib.SliceRun
import Derived.Lib.AppendZerosOnto
import Derived.Deep.RegionLaw
import Derived.Test.YtmjeljldmmkcpaaGreatK8
namespace Go.Proofs.YtmjeljldmmkcpaaGreat.Zs.Dk
open Go.Proofs.YtmjeljldmmkcpaaGreat.Dk
open Go.RowKit Go.PlainAid
theorem Top.stay {w w' : World} {p b x G : Nat} {M : List Nat} (h : Top w p b x G) (hs : Stay w w' M) (hp : p ∉ M) : Top w' p b x G := h.kept (hs.block p h.lt hp)
theorem Tab.stay {w w' : World} {B p b x G : Nat} {z : List Cl} {M : List Nat} (h : Tab w B p b x G z) (hs : Stay w w' M) (hp : p ∉ M) (hb : b ∉ M) : Tab w' B p b x G z :=
 ⟨h.top.stay hs hp, h.row.kept (hs.block b h.row.lt hb), h.low, h.lowb, h.inv, h.seed, h.siz⟩
theorem Tab.lower {w : World} {B C p b x G : Nat} {z : List Cl} (h : Tab w B p b x G z) (hC : C ≤ B) : Tab w C p b x G z :=
 ⟨h.top, h.row, Nat.le_trans hC h.low, Nat.le_trans hC h.lowb, h.inv, h.seed, h.siz⟩
theorem OwnR.stay {w w' : World} {B : Nat} {e : TypeId} {s : Nat} {a : Option Addr} {n cap : Nat} {cs : List Value} {M : List Nat} (h : OwnR w B e s a n cap cs) (hs : Stay w w' M) (hd : ∀ k, a.map (·.block) = some k → k ∉ M) : OwnR w' B e s a n cap cs :=
 h.kept fun k hk => hs.block k (h.lt hk).2.1 (hd k hk)
abbrev OwnP (w : World) (B : Nat) (e : TypeId) (a : Option Addr) (n cap : Nat) (ls : List Nat) : Prop := OwnR w B e 1 a n cap (Am ls)
theorem OwnP.len {w : World} {B : Nat} {e : TypeId} {a : Option Addr} {n cap : Nat} {ls : List Nat} (h : OwnP w B e a n cap ls) : ls.length = n := by have := OwnR.len h; simpa [Am] using this
theorem OwnP.cell {w : World} {B : Nat} {e : TypeId} {g n cap : Nat} {ls : List Nat} (h : OwnP w B e (some ⟨g, 0, none⟩) n cap ls) {j p : Nat} (hj : ls[j]? = some p) : w.cell? ⟨g, j, none⟩ = some (ptr p) := by
 have hl := OwnP.len h
 have hlt : j < ls.length := by
  rcases Nat.lt_or_ge j ls.length with h1 | h1
  ·exact h1
  ·rw [List.getElem?_eq_none h1] at hj; cases hj
 obtain ⟨g', h1, h2⟩ := OwnR.at h (by omega)
 cases h1
 exact h2 _ _ (by rw [Am, List.getElem?_map, hj]; rfl)
structure Tb where
 p : Nat
 b : Nat
 G : Nat
 z : List Cl
def Tb.es (t : Tb) : List En := ents t.z
def Tb.fp (t : Tb) : List Nat := [t.p, t.b]
def tsEs (ts : List Tb) : List En := ts.flatMap Tb.es
def tsFp (ts : List Tb) : List Nat := ts.flatMap Tb.fp
structure Lf where
 l : Nat
 q : Nat
 a : Nat
 tb : Nat
 cap : Nat
 ts : List Tb
def Lf.es (f : Lf) : List En := tsEs f.ts
def Lf.fp (f : Lf) : List Nat := f.a :: f.tb :: tsFp f.ts
def Lf.pt (f : Lf) : Pt := (f.l, f.q)
theorem An (a b : List Tb) : tsEs (a ++ b) = tsEs a ++ tsEs b := List.flatMap_append ..
theorem Bh (t : Tb) (b : List Tb) : tsEs (t :: b) = t.es ++ tsEs b := List.flatMap_cons ..
theorem Bv (t : Tb) : tsEs [t] = t.es := by rw [Bh]; exact List.append_nil _
theorem Ci (a b : List Tb) : tsFp (a ++ b) = tsFp a ++ tsFp b := List.flatMap_append ..
theorem tsFp_cons (t : Tb) (b : List Tb) : tsFp (t :: b) = t.p :: t.b :: tsFp b := by rw [tsFp, List.flatMap_cons]; rfl
theorem mem_tsFp {ts : List Tb} {t : Tb} (h : t ∈ ts) : t.p ∈ tsFp ts ∧ t.b ∈ tsFp ts :=
 ⟨List.mem_flatMap.2 ⟨t, h, by simp [Tb.fp]⟩, List.mem_flatMap.2 ⟨t, h, by simp [Tb.fp]⟩⟩
structure Leaf (w : World) (B x : Nat) (f : Lf) : Prop where
 blk : w.heap[f.a]? = some (.cells #[.int .i64 (f.l : Nat), .slice (some ⟨f.tb, 0, none⟩) f.ts.length f.cap] 156 (0, 0))
 row : OwnP w B 132 (some ⟨f.tb, 0, none⟩) f.ts.length f.cap (f.ts.map (·.p))
 tab : ∀ t ∈ f.ts, Tab w B t.p t.b x t.G t.z
 low : B ≤ f.a
 nod : f.fp.Nodup
 key : (Ae f.es).Nodup
 pos : 0 < f.ts.length
theorem Leaf.lt {w : World} {B x : Nat} {f : Lf} (h : Leaf w B x f) : f.a < w.heap.size := (Array.getElem?_eq_some_iff.1 h.blk).1
theorem Leaf.fplt {w : World} {B x : Nat} {f : Lf} (h : Leaf w B x f) : ∀ k ∈ f.fp, B ≤ k ∧ k < w.heap.size := by
 intro k hk
 rcases List.mem_cons.1 hk with rfl | hk
 ·exact ⟨h.low, h.lt⟩
 rcases List.mem_cons.1 hk with rfl | hk
 ·have := OwnR.lt h.row (k := f.tb) rfl
  exact ⟨this.1, this.2.1⟩
 ·obtain ⟨t, ht, hk⟩ := List.mem_flatMap.1 hk
  have hT := h.tab t ht
  simp only [Tb.fp, List.mem_cons, List.not_mem_nil, or_false] at hk
  rcases hk with rfl | rfl
  ·exact ⟨hT.low, hT.top.lt⟩
  ·exact ⟨hT.lowb, hT.row.lt⟩
theorem Leaf.stay {w w' : World} {B x : Nat} {f : Lf} {M : List Nat} (h : Leaf w B x f) (hs : Stay w w' M) (hd : ∀ k ∈ f.fp, k ∉ M) : Leaf w' B x f := by
 refine ⟨by rw [hs.block f.a h.lt (hd _ (by simp [Lf.fp]))]; exact h.blk, OwnR.stay h.row hs (fun k hk => hd k (by cases hk; simp [Lf.fp])), fun t ht => (h.tab t ht).stay hs (hd _ ?_) (hd _ ?_), h.low, h.nod, h.key, h.pos⟩
 ·exact List.mem_cons_of_mem _ (List.mem_cons_of_mem _ (mem_tsFp ht).1)
 ·exact List.mem_cons_of_mem _ (List.mem_cons_of_mem _ (mem_tsFp ht).2)
theorem Leaf.keep {w w' : World} {B x : Nat} {f : Lf} (h : Leaf w B x f) (hb : Below w.heap.size w w') : Leaf w' B x f := h.stay (Stay.of_below hb []) (fun _ _ => by simp)
theorem Leaf.own {w : World} {B x : Nat} {f : Lf} (h : Leaf w B x f) : w.cell? ⟨f.a, 0, none⟩ = some (.int .i64 (f.l : Nat)) := by simp [World.cell?, h.blk]
theorem Leaf.tabs {w : World} {B x : Nat} {f : Lf} (h : Leaf w B x f) : w.cell? ⟨f.a, 1, none⟩ = some (.slice (some ⟨f.tb, 0, none⟩) f.ts.length f.cap) := by simp [World.cell?, h.blk]
theorem Leaf.at {w : World} {B x : Nat} {f : Lf} (h : Leaf w B x f) {i : Nat} {t : Tb} (hi : f.ts[i]? = some t) : w.cell? ⟨f.tb, i, none⟩ = some (ptr t.p) :=
 OwnP.cell h.row (by rw [List.getElem?_map, hi]; rfl)
theorem Leaf.max {w : World} {B x : Nat} {f : Lf} (h : Leaf w B x f) : f.ts.length ≤ 9223372036854775807 := by have := OwnR.cap h.row; unfold maxLen at this; omega
theorem size_any (B x : Nat) (f : Lf) (w : World) (hL : Leaf w B x f) (hn : f.es.length ≤ 1000000) :
  Calls Tryz.prog 186 #[ptr f.a] w fun e w' => e = .returned (.int .i64 (f.es.length : Nat)) ∧ w' = w := by
 have HL : Hid (Leaf w B x f) := hL
 have hc := hL.tabs
 have hmx := hL.max
 have HN : Hid (f.es.length ≤ 1000000) := hn
 have HE : Hid (f.es = tsEs f.ts) := rfl
 generalize hm : f.ts.length = m at hc hmx
 have HM : Hid (f.ts.length = m) := hm
 clear hL hn hm
 go_enter Tryz.func186, Tryz.ntmps186
 go_wp2
 go_loopg [3, 5, 11] m (fun q nv tv iv wr => w = wr ∧ ∃ i : Nat, i + q = m ∧ iv = .int .i64 i ∧ nv = .int .i64 ((tsEs (f.ts.take i)).length : Nat))
 case atStart => exact ⟨rfl, 0, by omega, rfl, rfl⟩
 case round =>
  obtain ⟨rfl, i, hi, rfl, rfl⟩ := hrel
  by_cases h8 : (i : Int) < m
  ·obtain ⟨t, ht, htm⟩ := A6 (l := f.ts) (i := i) (by have := HM.out; omega)
   have hk := HL.out.at ht
   have hLen := Len_any _ _ _ _ _ _ _ (HL.out.tab t htm)
   have HS : Hid ((tsEs (f.ts.take (i + 1))).length = (tsEs (f.ts.take i)).length + (ents t.z).length) := by show _ = _; rw [B3 ht, An, List.length_append, Bv]; rfl
   have hle : (tsEs (f.ts.take (i + 1))).length ≤ 1000000 := by
    have h1 := HN.out
    rw [HE.out, ← List.take_append_drop (i + 1) f.ts, An, List.length_append] at h1
    omega
   rw [HS.out] at hle
   generalize (tsEs (f.ts.take i)).length = c at HS hle ⊢
   generalize (ents t.z).length = d at HS hle hLen
   clear ht htm
   go_wp2_with fail
   refine hLen.mono ?_
   rintro e w ⟨rfl, rfl⟩
   go_wp2
   go_roundg (gk - 1)
   case measure => omega
   case rel => exact ⟨rfl, i + 1, by omega, by go_num, by rw [HS.out]; go_num⟩
  ·have HT : Hid (f.ts.take i = f.ts) := by show _ = _; rw [List.take_of_length_le (by have := HM.out; omega)]
   rw [HT.out]
   go_wp2
   go_ret
   exact ⟨rfl, rfl⟩
theorem Aj (a b : List En) : Ae (a ++ b) = Ae a ++ Ae b := List.map_append ..
theorem splits_any (B x : Nat) (f : Lf) (w : World) (hL : Leaf w B x f) (hl : f.l ≤ 16) (hn : f.es.length ≤ 1000000) :
  Calls Tryz.prog 140 #[ptr f.a] w fun e w' => e = .returned (.bool (decide (f.l < 16) && decide (112 ≤ f.es.length))) ∧ w' = w := by
 have hS := fun w hL => size_any B x f w hL hn
 have hc := hL.own
 have HL : Hid (Leaf w B x f) := hL
 generalize f.es.length = m at hS hn ⊢
 generalize f.l = l at hc hl ⊢
 by_cases h1 : l < 16
 ·have HR : Hid (decide (l < 16) = true) := decide_eq_true h1
  have h1z : (l : Int) < 16 := by omega
  clear hL
  go_enter Tryz.func140, Tryz.ntmps140
  go_wp2_with fail
  refine (hS _ HL.out).mono ?_
  rintro e w ⟨rfl, rfl⟩
  by_cases h2 : 112 ≤ m
  ·have h2z : (112 : Int) ≤ m := by omega
   have HR2 : Hid (decide (112 ≤ m) = true) := decide_eq_true h2
   clear h2
   go_wp2
   go_ret
   exact ⟨by rw [HR.out, HR2.out]; rfl, rfl⟩
  ·have h2z : decide ((112 : Int) ≤ m) = false := decide_eq_false (by omega)
   have HR2 : Hid (decide (112 ≤ m) = false) := decide_eq_false h2
   clear h2
   go_wp2
   go_ret
   exact ⟨by rw [HR.out, HR2.out]; rfl, rfl⟩
 ·have HR : Hid (decide (l < 16) = false) := decide_eq_false h1
  obtain rfl : l = 16 := by omega
  clear hL
  go_enter Tryz.func140, Tryz.ntmps140
  go_wp2
  go_ret
  exact ⟨by rw [HR.out]; rfl, rfl⟩
theorem holder_yes (B x : Nat) (f : Lf) (k : BA) (w : World) (hL : Leaf w B x f) (hks : k.size ≤ maxLen) (hk : k ∈ Ae f.es) :
  Calls Tryz.prog 138 #[ptr f.a, .string k] w fun e w' => Below w.heap.size w w' ∧ ∃ t, e = .returned (ptr t.p) ∧ t ∈ f.ts ∧ k ∈ Ae t.es := by
 have HL : Hid (Leaf w B x f) := hL
 have hc := hL.tabs
 have hmx := hL.max
 have HK : Hid (k ∈ Ae (tsEs f.ts)) := hk
 have HKS : Hid (k.size ≤ maxLen) := hks
 generalize hm : f.ts.length = m at hc hmx
 have HM : Hid (f.ts.length = m) := hm
 clear hL hm hk hks
 go_enter Tryz.func138, Tryz.ntmps138
 go_wp2
 go_loopg [6, 7, 8, 14] m (fun q tv vv bv iv wr => ∃ i : Nat, i + q = m ∧ iv = .int .i64 i ∧ Hid (k ∉ Ae (tsEs (f.ts.take i))) ∧ Hid (Below w.heap.size w wr))
 case atStart => exact ⟨0, by omega, rfl, (by simp [tsEs] : k ∉ _), Below.refl _ _⟩
 case round =>
  obtain ⟨i, hi, rfl, HNo, HB⟩ := hrel
  by_cases h8 : (i : Int) < m
  ·obtain ⟨t, ht, htm⟩ := A6 (l := f.ts) (i := i) (by have := HM.out; omega)
   have hcc := (HL.out.keep HB.out).at ht
   have HTab : Hid (Tab wr B t.p t.b x t.G t.z) := (HL.out.keep HB.out).tab t htm
   have HMm : Hid (t ∈ f.ts) := htm
   by_cases hin : k ∈ (ents t.z).map (·.1)
   ·obtain ⟨⟨k0, v⟩, hv, rfl⟩ := List.mem_map.1 hin
    have hG := Get_some _ _ _ _ _ _ k0 v _ HTab.out HKS.out hv
    have HIn : Hid ((k0, v) ∈ t.es) := hv
    clear ht htm hin hv
    go_wp2_with fail
    refine hG.mono ?_
    rintro e w1 ⟨rfl, hb1⟩
    have HB1 := Ad HB hb1
    clear hb1 hG
    go_wp2
    go_ret
    exact ⟨HB1.out, t, rfl, HMm.out, v, HIn.out⟩
   ·have hG := Get_none _ _ _ _ _ _ k _ HTab.out HKS.out hin
    have HNo1 : Hid (k ∉ Ae (tsEs (f.ts.take (i + 1)))) := by
     show k ∉ _
     rw [B3 ht, An, Aj, Bv, List.mem_append]
     exact fun h => h.elim HNo.out hin
    clear ht htm hin
    go_wp2_with fail
    refine hG.mono ?_
    rintro e w1 ⟨rfl, hb1⟩
    have HB1 := Ad HB hb1
    clear hb1 hG
    go_wp2
    go_roundg (gk - 1)
    case measure => omega
    case rel => exact ⟨i + 1, by omega, by go_num, HNo1, HB1⟩
  ·exact absurd HK.out (by have := HNo.out; rw [List.take_of_length_le (by have := HM.out; omega)] at this; exact this)
theorem holder_no (B x : Nat) (f : Lf) (k : BA) (w : World) (hL : Leaf w B x f) (hks : k.size ≤ maxLen) (hk : k ∉ Ae f.es) :
  Calls Tryz.prog 138 #[ptr f.a, .string k] w fun e w' => e = .returned (.pointer none) ∧ Below w.heap.size w w' := by
 have HL : Hid (Leaf w B x f) := hL
 have hc := hL.tabs
 have hmx := hL.max
 have HK : Hid (∀ t ∈ f.ts, k ∉ (ents t.z).map (·.1)) := fun t ht h => hk (by
  obtain ⟨e, he, h1⟩ := List.mem_map.1 h
  exact List.mem_map.2 ⟨e, List.mem_flatMap.2 ⟨t, ht, he⟩, h1⟩)
 have HKS : Hid (k.size ≤ maxLen) := hks
 generalize hm : f.ts.length = m at hc hmx
 have HM : Hid (f.ts.length = m) := hm
 clear hL hm hk hks
 go_enter Tryz.func138, Tryz.ntmps138
 go_wp2
 go_loopg [6, 7, 8, 14] m (fun q tv vv bv iv wr => ∃ i : Nat, i + q = m ∧ iv = .int .i64 i ∧ Hid (Below w.heap.size w wr))
 case atStart => exact ⟨0, by omega, rfl, Below.refl _ _⟩
 case round =>
  obtain ⟨i, hi, rfl, HB⟩ := hrel
  by_cases h8 : (i : Int) < m
  ·obtain ⟨t, ht, htm⟩ := A6 (l := f.ts) (i := i) (by have := HM.out; omega)
   have hcc := (HL.out.keep HB.out).at ht
   have hG := Get_none _ _ _ _ _ _ k _ ((HL.out.keep HB.out).tab t htm) HKS.out (HK.out t htm)
   clear ht htm
   go_wp2_with fail
   refine hG.mono ?_
   rintro e w1 ⟨rfl, hb1⟩
   have HB1 := Ad HB hb1
   clear hb1 hG
   go_wp2
   go_roundg (gk - 1)
   case measure => omega
   case rel => exact ⟨i + 1, by omega, by go_num, HB1⟩
  ·go_wp2
   go_ret
   exact ⟨rfl, HB.out⟩
theorem newLeaf_any (l p : Nat) (w : World) :
  Calls Tryz.prog 79 #[.int .i64 (l : Nat), ptr p] w fun e w' => Below w.heap.size w w' ∧ ∃ a, e = .returned (ptr a) ∧ w.heap.size < a ∧ a < w'.heap.size ∧
   w'.heap[a]? = some (.cells #[.int .i64 (l : Nat), .slice (some ⟨w.heap.size, 0, none⟩) 1 1] 156 (0, 0)) ∧ OwnP w' w.heap.size 132 (some ⟨w.heap.size, 0, none⟩) 1 1 [p] := by
 obtain ⟨w1, hw1⟩ : ∃ w1, w.alloc (.cells #[ptr p] 132) = w1 := ⟨_, rfl⟩
 have HB1 : Hid (Below w.heap.size w w1) := by show Below _ _ _; rw [← hw1]; exact Ac w _
 have HS1 : Hid (w1.heap.size = w.heap.size + 1) := by show _ = _; rw [← hw1]; exact size_alloc w _
 have HO1 : Hid (OwnP w1 w.heap.size 132 (some ⟨w.heap.size, 0, none⟩) 1 1 [p]) := by
  show OwnP _ _ _ _ _ _ _
  rw [← hw1]
  exact ⟨rfl, .inr ⟨w.heap.size, 1, #[ptr p], rfl, Nat.le_refl _, heap_alloc_new w _, Nat.le_refl _, by decide, rfl, rfl⟩⟩
 obtain ⟨w2, hw2⟩ : ∃ w2, w1.alloc (.cells #[.int .i64 (l : Nat), .slice (some ⟨w.heap.size, 0, none⟩) 1 1] 156) = w2 := ⟨_, rfl⟩
 have HB2 : Hid (Below w1.heap.size w1 w2) := by show Below _ _ _; rw [← hw2]; exact Ac w1 _
 have HS2 : Hid (w2.heap.size = w1.heap.size + 1) := by show _ = _; rw [← hw2]; exact size_alloc w1 _
 have HK2 : Hid (w2.heap[w1.heap.size]? = some (.cells #[.int .i64 (l : Nat), .slice (some ⟨w.heap.size, 0, none⟩) 1 1] 156 (0, 0))) := by show _ = _; rw [← hw2]; exact heap_alloc_new w1 _
 go_enter Tryz.func79, Tryz.ntmps79
 go_wp2
 go_ret
 refine ⟨(Ad HB1 HB2.out).out, w1.heap.size, rfl, by have := HS1.out; omega, by have := HS2.out; omega, HK2.out, OwnR.keep HO1.out HB2.out⟩
theorem fp_parts {f : Lf} {pre post : List Tb} {t : Tb} (e : f.ts = pre ++ t :: post) : f.fp = (f.a :: f.tb :: tsFp pre ++ [t.p]) ++ t.b :: tsFp post := by
 unfold Lf.fp
 rw [e, Ci, tsFp_cons]
 simp
theorem fp_apart {f : Lf} {pre post : List Tb} {t : Tb} (hn : f.fp.Nodup) (e : f.ts = pre ++ t :: post) : f.a ∉ [t.p, t.b] ∧ f.tb ∉ [t.p, t.b] ∧ (∀ u ∈ pre, u.p ∉ [t.p, t.b] ∧ u.b ∉ [t.p, t.b]) ∧ (∀ u ∈ post, u.p ∉ [t.p, t.b] ∧ u.b ∉ [t.p, t.b]) := by
 unfold Lf.fp at hn
 rw [e, Ci, tsFp_cons, List.nodup_cons, List.nodup_cons, List.nodup_append, List.nodup_cons, List.nodup_cons] at hn
 obtain ⟨h1, h2, h3, ⟨h4, h5, h6⟩, h7⟩ := hn
 simp only [List.mem_cons, List.mem_append, not_or] at h1 h2 h4
 refine ⟨?_, ?_, ?_, ?_⟩
 ·simp only [List.mem_cons, List.not_mem_nil, or_false, not_or]; exact ⟨h1.2.2.1, h1.2.2.2.1⟩
 ·simp only [List.mem_cons, List.not_mem_nil, or_false, not_or]; exact ⟨h2.2.1, h2.2.2.1⟩
 ·intro u hu
  have hm := mem_tsFp hu
  simp only [List.mem_cons, List.not_mem_nil, or_false, not_or]
  exact ⟨⟨h7 _ hm.1 _ (by simp), h7 _ hm.1 _ (by simp)⟩, h7 _ hm.2 _ (by simp), h7 _ hm.2 _ (by simp)⟩
 ·intro u hu
  have hm := mem_tsFp hu
  simp only [List.mem_cons, List.not_mem_nil, or_false, not_or]
  exact ⟨⟨fun e => h4.2 (e ▸ hm.1), fun e => h5 (e ▸ hm.1)⟩, fun e => h4.2 (e ▸ hm.2), fun e => h5 (e ▸ hm.2)⟩
theorem Leaf.turn {w w' : World} {B x : Nat} {f : Lf} {pre post : List Tb} {t : Tb} {b' G' : Nat} {z' : List Cl} (h : Leaf w B x f) (e : f.ts = pre ++ t :: post) (hs : Stay w w' [t.p, t.b]) (hT : Tab w' B t.p b' x G' z') (hb : b' = t.b ∨ w.heap.size ≤ b')
  (hk : (Ae (tsEs (pre ++ ⟨t.p, b', G', z'⟩ :: post))).Nodup) :
  Leaf w' B x { f with ts := pre ++ ⟨t.p, b', G', z'⟩ :: post } ∧ (∀ j ∈ ({ f with ts := pre ++ ⟨t.p, b', G', z'⟩ :: post } : Lf).fp, j ∈ f.fp ∨ w.heap.size ≤ j) ∧ Stay w w' f.fp := by
 obtain ⟨h1, h2, h3, h4⟩ := fp_apart h.nod e
 have hlen : (pre ++ (⟨t.p, b', G', z'⟩ : Tb) :: post).length = f.ts.length := by rw [e]; simp
 have hps : (pre ++ (⟨t.p, b', G', z'⟩ : Tb) :: post).map (·.p) = f.ts.map (·.p) := by rw [e]; simp
 have hfp : ({ f with ts := pre ++ ⟨t.p, b', G', z'⟩ :: post } : Lf).fp = (f.a :: f.tb :: tsFp pre ++ [t.p]) ++ b' :: tsFp post := fp_parts (f := { f with ts := pre ++ ⟨t.p, b', G', z'⟩ :: post }) rfl
 have hfp0 := fp_parts e
 have hlt := h.fplt
 refine ⟨⟨?_, ?_, ?_, h.low, ?_, hk, ?_⟩, ?_, hs.mono ?_⟩
 ·show w'.heap[f.a]? = some (.cells #[.int .i64 (f.l : Nat), .slice (some ⟨f.tb, 0, none⟩) (pre ++ (⟨t.p, b', G', z'⟩ : Tb) :: post).length f.cap] 156 (0, 0))
  rw [hlen, hs.block f.a h.lt h1]
  exact h.blk
 ·show OwnP w' B 132 (some ⟨f.tb, 0, none⟩) (pre ++ (⟨t.p, b', G', z'⟩ : Tb) :: post).length f.cap ((pre ++ (⟨t.p, b', G', z'⟩ : Tb) :: post).map (·.p))
  rw [hlen, hps]
  exact OwnR.stay h.row hs (fun k hk => by cases hk; exact h2)
 ·intro u hu
  rcases List.mem_append.1 hu with hu | hu
  ·exact (h.tab u (by rw [e]; simp [hu])).stay hs (h3 u hu).1 (h3 u hu).2
  ·rcases List.mem_cons.1 hu with rfl | hu
   ·exact hT
   ·exact (h.tab u (by rw [e]; simp [hu])).stay hs (h4 u hu).1 (h4 u hu).2
 ·rw [hfp]
  have hn := h.nod
  rw [hfp0] at hn hlt
  rcases hb with rfl | hb
  ·exact hn
  ·exact nodup_replace hn (fun hm => by have := hlt b' (List.mem_append.2 (.inl hm)); omega) (fun hm => by have := hlt b' (List.mem_append.2 (.inr (List.mem_cons_of_mem _ hm))); omega)
 ·show 0 < (pre ++ (⟨t.p, b', G', z'⟩ : Tb) :: post).length
  rw [hlen]; exact h.pos
 ·intro j hj
  rw [hfp] at hj
  rw [hfp0]
  rcases List.mem_append.1 hj with hj | hj
  ·exact .inl (List.mem_append.2 (.inl hj))
  ·rcases List.mem_cons.1 hj with rfl | hj
   ·rcases hb with rfl | hb
    ·exact .inl (by simp)
    ·exact .inr hb
   ·exact .inl (List.mem_append.2 (.inr (List.mem_cons_of_mem _ hj)))
 ·intro j hj
  rw [hfp0]
  simp only [List.mem_cons, List.not_mem_nil, or_false] at hj
  rcases hj with rfl | rfl <;> simp
def Ful (f : Lf) : Prop := f.ts.length = 1 ∨ ∀ t ∈ f.ts, 0 < t.es.length
theorem Ful.le {f : Lf} (h : Ful f) : f.ts.length ≤ f.es.length + 1 := by
 rcases h with h | h
 ·omega
 ·unfold Lf.es
  generalize f.ts = ts at h
  have : ts.length ≤ (tsEs ts).length := by
   induction ts with
   | nil => exact Nat.zero_le _
   | cons t ts ih =>
    have h1 := h t (by simp)
    have h2 := ih (fun u hu => h u (List.mem_cons_of_mem _ hu))
    rw [Bh, List.length_append, List.length_cons]
    omega
  omega
structure Grew (w w' : World) (B x : Nat) (f f' : Lf) : Prop where
 leaf : Leaf w' B x f'
 stay : Stay w w' f.fp
 fps : ∀ j ∈ f'.fp, j ∈ f.fp ∨ w.heap.size ≤ j
 l : f'.l = f.l
 q : f'.q = f.q
 a : f'.a = f.a
theorem Grew.first {w w0 w' : World} {B x : Nat} {f f' : Lf} (h : Grew w w' B x f f') (hb : Below w0.heap.size w0 w) : Grew w0 w' B x f f' :=
 ⟨h.leaf, (Stay.of_below hb f.fp).trans h.stay (fun _ hi => .inl hi), fun j hj => (h.fps j hj).imp id (fun k => Nat.le_trans hb.size k), h.l, h.q, h.a⟩
theorem keys_nodup_add {es es' : List En} {k : BA} {v : Int} (hn : (Ae es).Nodup) (hk : k ∉ Ae es) (hp : es'.Perm (es ++ [(k, v)])) : (Ae es').Nodup := by
 have h1 := (hp.map (·.1)).nodup_iff
 refine h1.2 ?_
 rw [List.map_append, List.nodup_append]
 refine ⟨hn, by simp, fun a ha b hb => ?_⟩
 simp at hb
 subst hb
 rintro rfl
 exact hk ha
theorem mid_perm {pre post : List Tb} {t t' : Tb} {e : List En} (hp : t'.es.Perm (t.es ++ e)) : (tsEs (pre ++ t' :: post)).Perm (tsEs (pre ++ t :: post) ++ e) := by
 rw [An, An, Bh, Bh, List.append_assoc]
 refine List.Perm.append_left _ ?_
 refine (hp.append_right _).trans ?_
 rw [List.append_assoc, List.append_assoc]
 exact List.Perm.append_left _ List.perm_append_comm
theorem not_in_tab {f : Lf} {t : Tb} {k : BA} (hk : k ∉ Ae f.es) (ht : t ∈ f.ts) : k ∉ (ents t.z).map (·.1) := fun h => hk (by
 obtain ⟨e, he, h1⟩ := List.mem_map.1 h
 exact List.mem_map.2 ⟨e, List.mem_flatMap.2 ⟨t, ht, he⟩, h1⟩)
def Added (w w' : World) (B x : Nat) (f : Lf) (k : BA) (v : Int) : Prop :=
 ∃ f', Grew w w' B x f f' ∧ f'.es.Perm (f.es ++ [(k, v)]) ∧ (f.ts.length = 1 → f.es.length < 112 → f'.ts.length = 1) ∧ (Ful f → Ful f')
theorem es_lee {ts : List Tb} {t : Tb} (h : t ∈ ts) : t.es.length ≤ (tsEs ts).length := by
 obtain ⟨a, c, rfl⟩ := List.append_of_mem h
 unfold tsEs
 rw [List.flatMap_append, List.flatMap_cons, List.length_append, List.length_append]
 omega
set_option maxRecDepth 100000 in
set_option maxHeartbeats 4000000 in
theorem add_leaf (B x : Nat) (f : Lf) (k : BA) (v : Int) (w : World) (hL : Leaf w B x f) (hx : x < 18446744073709551616) (hks : k.size ≤ maxLen) (hk : k ∉ Ae f.es) (_ : f.ts.length ≤ 10000000) (hB : B ≤ w.heap.size) (hfw : f.es.length < 112) :
  Calls Tryz.prog 142 #[ptr f.a, .int .u64 x, .string k, .int .u64 v] w fun e w' => e = .returned (.tuple #[]) ∧ Added w w' B x f k v := by
 have HL : Hid (Leaf w B x f) := hL
 have HFw : Hid (f.es.length < 112) := hfw
 have hc := hL.tabs
 have HK : Hid (k ∉ Ae f.es) := hk
 have HKS : Hid (k.size ≤ maxLen) := hks
 have HX : Hid (x < 18446744073709551616) := hx
 have HBs : Hid (B ≤ w.heap.size) := hB
 generalize hm : f.ts.length = m at hc
 have HM : Hid (f.ts.length = m) := hm
 clear hL hm hk hks hx hB
 go_enter Tryz.func142, Tryz.ntmps142
 go_wp2
 go_loopg [9, 16] m (fun q tv iv wr => ∃ i : Nat, i + q = m ∧ iv = .int .i64 i ∧ Hid (∀ t ∈ f.ts.take i, 112 ≤ t.es.length) ∧ Hid (Below w.heap.size w wr))
 case atStart => exact ⟨0, by omega, rfl, (by simp : ∀ t ∈ f.ts.take 0, 112 ≤ t.es.length), Below.refl _ _⟩
 case round =>
  obtain ⟨i, hi, rfl, HFu, HB⟩ := hrel
  by_cases h8 : (i : Int) < m
  ·obtain ⟨t, ht, htm⟩ := A6 (l := f.ts) (i := i) (by have := HM.out; omega)
   have hcc := (HL.out.keep HB.out).at ht
   have HTab : Hid (Tab wr B t.p t.b x t.G t.z) := (HL.out.keep HB.out).tab t htm
   have HIn := not_in_tab HK.out htm
   by_cases hfull : 112 ≤ (ents t.z).length
   ·exfalso
    have h9 : t.es.length ≤ f.es.length := es_lee htm
    have h8 := HFw.out
    have h7 : 112 ≤ t.es.length := hfull
    omega
   ·have hP := Put_new _ _ _ _ _ _ k v _ HTab.out HKS.out HIn (by omega)
    have HG : Hid (f.ts = f.ts.take i ++ t :: f.ts.drop (i + 1)) := get_parts ht
    clear ht htm HIn hfull
    go_wp2_with fail
    refine hP.mono ?_
    rintro e w1 ⟨rfl, hm1, b1, G1, z1, hT1, hb1, hp1⟩
    have HR : Hid (Added w w1 B x f k v) := by
     have hpm : (tsEs (f.ts.take i ++ ⟨t.p, b1, G1, z1⟩ :: f.ts.drop (i + 1))).Perm (f.es ++ [(k, v)]) := by
      have := mid_perm (pre := f.ts.take i) (post := f.ts.drop (i + 1)) (t := t) (t' := ⟨t.p, b1, G1, z1⟩) hp1
      rw [← HG.out] at this
      exact this
     obtain ⟨k1, k2, k3⟩ := (HL.out.keep HB.out).turn HG.out (Stay.of_moves hm1) hT1 hb1 (keys_nodup_add HL.out.key HK.out hpm)
     exact ⟨_, (⟨k1, k3, k2, rfl, rfl, rfl⟩ : Grew wr w1 B x f _).first HB.out, hpm, fun h _ => by
      have := congrArg List.length HG.out
      rw [h] at this
      simp at this ⊢
      omega, fun h => .inr fun u hu => by
       rcases List.mem_append.1 hu with hu | hu
       ·have := HFu.out u hu; omega
       ·rcases List.mem_cons.1 hu with rfl | hu
        ·have := hp1.length_eq
         rw [List.length_append] at this
         show 0 < (ents z1).length
         simp at this
         omega
        ·rcases h with h | h
         ·have h9 := congrArg List.length HG.out
          rw [h] at h9
          have h10 : 0 < (f.ts.drop (i + 1)).length := List.length_pos_of_mem hu
          simp at h9 h10
          omega
         ·exact h u (by rw [HG.out]; simp [hu])⟩
    clear hm1 hT1 hb1 hp1 hP
    go_wp2
    refine bodyPost_ret (results_none rfl _ _ _) rfl ?_
    exact ⟨rfl, HR.out⟩
  ·exfalso
   have hp := HL.out.pos
   have hm := HM.out
   have hf := HFu.out
   rw [List.take_of_length_le (by omega)] at hf
   obtain ⟨t, ht⟩ := List.exists_mem_of_length_pos hp
   have h7 := hf t ht
   have h9 : t.es.length ≤ f.es.length := es_lee ht
   have h8 := HFw.out
   omega
structure Dg where
 g : Nat
 pb : Nat
 cap : Nat
 pl : List Nat
 L : List Lf
def shL (L : List Lf) : List Pt := L.map Lf.pt
def esL (L : List Lf) : List En := L.flatMap Lf.es
def fpL (L : List Lf) : List Nat := L.flatMap Lf.fp
def Dg.sh (D : Dg) : List Pt := shL D.L
def Dg.es (D : Dg) : List En := esL D.L
structure Dct (w : World) (B d x : Nat) (D : Dg) : Prop where
 blk : w.heap[d]? = some (.cells #[.int .u64 (x : Nat), .int .i64 (D.es.length : Nat), .slice (some ⟨D.pb, 0, none⟩) (2 ^ D.g) D.cap] 136 (0, 0))
 row : OwnP w B 130 (some ⟨D.pb, 0, none⟩) (2 ^ D.g) D.cap D.pl
 leaf : ∀ f ∈ D.L, Leaf w B x f
 shp : Shp D.g D.sh
 dir : ∀ f ∈ D.L, ∀ i, i < 2 ^ D.g → isIn f.pt i = true → D.pl[i]? = some f.a
 own : ∀ f ∈ D.L, ∀ e ∈ f.es, isIn f.pt (hsh x e.1) = true
 one : ∀ f ∈ D.L, f.l < 16 → f.ts.length = 1
 ful : ∀ f ∈ D.L, Ful f
 nod : (d :: D.pb :: fpL D.L).Nodup
 low : B ≤ d
 seed : x < 18446744073709551616
 le : D.es.length ≤ 1000000
theorem Aq (a b : List Lf) : esL (a ++ b) = esL a ++ esL b := List.flatMap_append ..
theorem Ax (f : Lf) (b : List Lf) : esL (f :: b) = f.es ++ esL b := List.flatMap_cons ..
theorem esL_one (f : Lf) : esL [f] = f.es := by rw [Ax]; exact List.append_nil _
theorem Bg (a b : List Lf) : fpL (a ++ b) = fpL a ++ fpL b := List.flatMap_append ..
theorem Bw (f : Lf) (b : List Lf) : fpL (f :: b) = f.fp ++ fpL b := List.flatMap_cons ..
theorem B5 {L : List Lf} {f : Lf} (h : f ∈ L) {j : Nat} (hj : j ∈ f.fp) : j ∈ fpL L := List.mem_flatMap.2 ⟨f, h, hj⟩
theorem mem_esL {L : List Lf} {f : Lf} (h : f ∈ L) {e : En} (he : e ∈ f.es) : e ∈ esL L := List.mem_flatMap.2 ⟨f, h, he⟩
theorem Dct.lt {w : World} {B d x : Nat} {D : Dg} (h : Dct w B d x D) : d < w.heap.size := (Array.getElem?_eq_some_iff.1 h.blk).1
theorem Dct.fplt {w : World} {B d x : Nat} {D : Dg} (h : Dct w B d x D) : ∀ k ∈ d :: D.pb :: fpL D.L, B ≤ k ∧ k < w.heap.size := by
 intro k hk
 rcases List.mem_cons.1 hk with rfl | hk
 ·exact ⟨h.low, h.lt⟩
 rcases List.mem_cons.1 hk with rfl | hk
 ·have := OwnR.lt h.row (k := D.pb) rfl
  exact ⟨this.1, this.2.1⟩
 ·obtain ⟨f, hf, hk⟩ := List.mem_flatMap.1 hk
  exact (h.leaf f hf).fplt k hk
theorem Dct.stay {w w' : World} {B d x : Nat} {D : Dg} {M : List Nat} (h : Dct w B d x D) (hs : Stay w w' M) (hd : ∀ k ∈ d :: D.pb :: fpL D.L, k ∉ M) : Dct w' B d x D :=
 ⟨by rw [hs.block d h.lt (hd _ (by simp))]; exact h.blk, OwnR.stay h.row hs (fun k hk => hd k (by cases hk; simp)), fun f hf => (h.leaf f hf).stay hs (fun k hk => hd k (List.mem_cons_of_mem _ (List.mem_cons_of_mem _ (B5 hf hk)))), h.shp, h.dir, h.own, h.one, h.ful, h.nod, h.low, h.seed, h.le⟩
theorem Dct.keep {w w' : World} {B d x : Nat} {D : Dg} (h : Dct w B d x D) (hb : Below w.heap.size w w') : Dct w' B d x D := h.stay (Stay.of_below hb []) (fun _ _ => by simp)
theorem Dct.cseed {w : World} {B d x : Nat} {D : Dg} (h : Dct w B d x D) : w.cell? ⟨d, 0, none⟩ = some (.int .u64 (x : Nat)) := by simp [World.cell?, h.blk]
theorem Dct.ccnt {w : World} {B d x : Nat} {D : Dg} (h : Dct w B d x D) : w.cell? ⟨d, 1, none⟩ = some (.int .i64 (D.es.length : Nat)) := by simp [World.cell?, h.blk]
theorem Dct.cpl {w : World} {B d x : Nat} {D : Dg} (h : Dct w B d x D) : w.cell? ⟨d, 2, none⟩ = some (.slice (some ⟨D.pb, 0, none⟩) (2 ^ D.g) D.cap) := by simp [World.cell?, h.blk]
theorem Dct.pow {w : World} {B d x : Nat} {D : Dg} (h : Dct w B d x D) : 2 ^ D.g ≤ 65536 := pow_le_16 h.shp.le
theorem Dct.les {w : World} {B d x : Nat} {D : Dg} (h : Dct w B d x D) {f : Lf} (hf : f ∈ D.L) : f.es.length ≤ 1000000 := by
 obtain ⟨a, c, e⟩ := List.append_of_mem hf
 have h1 := h.le
 unfold Dg.es at h1
 rw [e, Aq, Ax, List.length_append, List.length_append] at h1
 omega
theorem Dct.lef {w : World} {B d x : Nat} {D : Dg} (h : Dct w B d x D) {f : Lf} (hf : f ∈ D.L) : f.l ≤ D.g ∧ f.l ≤ 16 ∧ f.q < 2 ^ f.l := by
 have h1 := h.shp.lt f.pt (List.mem_map_of_mem hf)
 have h2 := h.shp.le
 simp only [Lf.pt] at h1
 omega
theorem Dct.parts {w : World} {B d x : Nat} {D : Dg} (h : Dct w B d x D) (hh : Nat) : ∃ a f c, D.L = a ++ f :: c ∧ isIn f.pt hh = true ∧ (∀ u ∈ a, isIn u.pt hh = false) ∧ (∀ u ∈ c, isIn u.pt hh = false) := by
 obtain ⟨sa, s, sc, e, h1, h2, h3⟩ := h.shp.parts hh
 unfold Dg.sh shL at e
 obtain ⟨a, l2, e1, rfl, e3⟩ := List.map_eq_append_iff.1 e
 obtain ⟨f, c, rfl, rfl, rfl⟩ := List.map_eq_cons_iff.1 e3
 exact ⟨a, f, c, e1, h1, fun u hu => h2 _ (List.mem_map_of_mem hu), fun u hu => h3 _ (List.mem_map_of_mem hu)⟩
theorem Dct.place {w : World} {B d x : Nat} {D : Dg} (h : Dct w B d x D) {f : Lf} (hf : f ∈ D.L) {hh : Nat} (hi : isIn f.pt hh = true) : D.pl[hh % 2 ^ D.g]? = some f.a ∧ hh % 2 ^ D.g < 2 ^ D.g := by
 have hlt : hh % 2 ^ D.g < 2 ^ D.g := Nat.mod_lt _ (pow_pos _)
 refine ⟨h.dir f hf _ hlt ?_, hlt⟩
 rw [isIn_low (h.lef hf).1]
 exact hi
theorem Dct.mem {w : World} {B d x : Nat} {D : Dg} (h : Dct w B d x D) {a c : List Lf} {f : Lf} {k : BA} (e : D.L = a ++ f :: c) (h2 : ∀ u ∈ a, isIn u.pt (hsh x k) = false) (h3 : ∀ u ∈ c, isIn u.pt (hsh x k) = false) {v : Int} : (k, v) ∈ D.es ↔ (k, v) ∈ f.es := by
 constructor
 ·intro hm
  obtain ⟨u, hu, hm⟩ := List.mem_flatMap.1 hm
  have ho := h.own u hu _ hm
  rw [e] at hu
  rcases List.mem_append.1 hu with hu | hu
  ·rw [h2 u hu] at ho; cases ho
  ·rcases List.mem_cons.1 hu with rfl | hu
   ·exact hm
   ·rw [h3 u hu] at ho; cases ho
 ·intro hm
  exact mem_esL (by rw [e]; simp) hm
theorem Dct.memk {w : World} {B d x : Nat} {D : Dg} (h : Dct w B d x D) {a c : List Lf} {f : Lf} {k : BA} (e : D.L = a ++ f :: c) (h2 : ∀ u ∈ a, isIn u.pt (hsh x k) = false) (h3 : ∀ u ∈ c, isIn u.pt (hsh x k) = false) : k ∈ Ae D.es ↔ k ∈ Ae f.es := by
 constructor
 ·intro hm
  obtain ⟨⟨k', v⟩, hm2, rfl⟩ := List.mem_map.1 hm
  exact List.mem_map.2 ⟨_, (h.mem e h2 h3).1 hm2, rfl⟩
 ·intro hm
  obtain ⟨⟨k', v⟩, hm2, rfl⟩ := List.mem_map.1 hm
  exact List.mem_map.2 ⟨_, (h.mem e h2 h3).2 hm2, rfl⟩
theorem Depth_any (B d x : Nat) (D : Dg) (w : World) (hD : Dct w B d x D) : Calls Tryz.prog 128 #[ptr d] w fun e w' => e = .returned (.int .i64 (D.g : Nat)) ∧ w' = w := by
 have hc := hD.cpl
 have hg := hD.shp.le
 have H := fun w => Len_pow D.g hg w
 have hp := hD.pow
 generalize D.g = g at hc hg H hp ⊢
 generalize 2 ^ g = p at hc H hp
 clear hD
 go_enter Tryz.func128, Tryz.ntmps128
 go_wp2_with fail
 refine (H _).mono ?_
 rintro e w ⟨rfl, rfl⟩
 go_wp2
 go_ret
 exact ⟨by go_num, rfl⟩
theorem A8 (B d x : Nat) (D : Dg) (f : Lf) (h : Nat) (w : World) (hD : Dct w B d x D) (hf : f ∈ D.L) (hi : isIn f.pt h = true) (hh : h < 18446744073709551616) :
  Calls Tryz.prog 87 #[ptr d, .int .u64 h] w fun e w' => e = .returned (ptr f.a) ∧ Below w.heap.size w w' := by
 have HD : Hid (Dct w B d x D) := hD
 have hc := hD.cpl
 have hp := hD.pow
 obtain ⟨hpl, hlt⟩ := hD.place hf hi
 have hrow := OwnP.cell hD.row hpl
 have hg := hD.shp.le
 have HDe := fun q => Depth_any B d x D (w.drewN q) (hD.keep (Aa w q))
 have HLo := fun w => Low_any h D.g w hh (by omega) (by omega)
 rw [low_dep, dep_nat hg] at HLo
 generalize D.g = g at hc hg hp hlt HDe HLo hrow
 generalize h % 2 ^ g = i at hlt HLo hrow
 generalize 2 ^ g = p at hc hp hlt
 have hiz : (i : Int) < p := by omega
 clear hD hpl
 go_enter Tryz.func87, Tryz.ntmps87
 go_wp2
 go_quiet ((first | (go_at_call 128; with_reducible exact Calls.quiet_of_same (HDe _)) | (go_at_call 127; with_reducible exact Calls.quiet_of_same (HLo _))))
 go_wp2
 go_ret
 exact ⟨rfl, Aa _ _⟩
end Go.Proofs.YtmjeljldmmkcpaaGreat.Zs.Dk
