/- Texts that the others stand on. -/
import Derived.Test.YtnajhjmdpaeelaaGreatDoorG16
import Derived.Laws.CopyOwn
import Derived.Lib.Overlaps
import Derived.Lib.SliceRun
import Derived.Lib.AppendZerosOnto
import Derived.Deep.RegionLaw
namespace Go.Proofs.YtnajhjmdpaeelaaGreatDoor.Zs.Dk
open Go.RowKit Go.PlainAid
/-- All is as it was, but for the blocks of M and what is new. -/
structure Stay (w w' : World) (M : List Nat) : Prop where
  os : w'.os = w.os
  tape : w'.tape = w.tape
  output : w'.output = w.output
  size : w.heap.size ≤ w'.heap.size
  block : ∀ k, k < w.heap.size → k ∉ M → w'.heap[k]? = w.heap[k]?
theorem Stay.of_below {w w' : World} (h : Below w.heap.size w w') (M : List Nat) : Stay w w' M := ⟨h.os, h.tape, h.output, h.size, fun k hk _ => h.block k hk⟩
theorem Stay.of_moves {w w' : World} {p b : Nat} (h : Moves w w' p b) : Stay w w' [p, b] :=
  ⟨h.os, h.tape, h.output, h.size, fun k hk hn => h.block k hk (fun e => hn (by simp [e])) (fun e => hn (by simp [e]))⟩
theorem Stay.trans {w w1 w2 : World} {M M' : List Nat} (h : Stay w w1 M) (k : Stay w1 w2 M') (hM : ∀ i ∈ M', i ∈ M ∨ w.heap.size ≤ i) : Stay w w2 M :=
  ⟨k.os.trans h.os, k.tape.trans h.tape, k.output.trans h.output, Nat.le_trans h.size k.size, fun i hi hn =>
    (k.block i (Nat.lt_of_lt_of_le hi h.size) (fun hm => (hM i hm).elim hn (fun h1 => by omega))).trans (h.block i hi hn)⟩
theorem Stay.mono {w w' : World} {M M' : List Nat} (h : Stay w w' M) (hM : ∀ i ∈ M, i ∈ M') : Stay w w' M' :=
  ⟨h.os, h.tape, h.output, h.size, fun k hk hn => h.block k hk (fun hm => hn (hM k hm))⟩
theorem Stay.below {w w' : World} {M : List Nat} {B : Nat} (h : Stay w w' M) (hM : ∀ i ∈ M, B ≤ i) (hB : B ≤ w.heap.size) : Below B w w' :=
  ⟨h.os, h.tape, h.output, h.size, fun k hk => h.block k (Nat.lt_of_lt_of_le hk hB) (fun hm => by have := hM k hm; omega)⟩
theorem Stay.set {w : World} {q o : Nat} {v : Value} : Stay w (w.setCell ⟨q, o, none⟩ v) [q] :=
  ⟨rfl, rfl, rfl, by simp [World.setCell], fun k _ h1 => Below.heap_setCell _ _ _ _ (by simpa using h1)⟩
theorem Stay.grown {w w2 : World} {row : Option Nat} {M : List Nat} (h : w.grownBy w2 row) (hr : ∀ g, row = some g → g ∈ M) : Stay w w2 M :=
  ⟨h.os, h.tape, h.output, h.size, fun k hk hn => h.block k hk (fun e => hn (hr k e.symm))⟩
theorem Top.stay {w w' : World} {p b x G : Nat} {M : List Nat} (h : Top w p b x G) (hs : Stay w w' M) (hp : p ∉ M) : Top w' p b x G := h.kept (hs.block p h.lt hp)
theorem Tab.stay {w w' : World} {B p b x G : Nat} {z : List Cl} {M : List Nat} (h : Tab w B p b x G z) (hs : Stay w w' M) (hp : p ∉ M) (hb : b ∉ M) : Tab w' B p b x G z :=
  ⟨h.top.stay hs hp, h.row.kept (hs.block b h.row.lt hb), h.low, h.lowb, h.inv, h.seed, h.siz⟩
theorem Tab.lower {w : World} {B C p b x G : Nat} {z : List Cl} (h : Tab w B p b x G z) (hC : C ≤ B) : Tab w C p b x G z :=
  ⟨h.top, h.row, Nat.le_trans hC h.low, Nat.le_trans hC h.lowb, h.inv, h.seed, h.siz⟩
theorem OwnR.stay {w w' : World} {B : Nat} {e : TypeId} {s : Nat} {a : Option Addr} {n cap : Nat} {cs : List Value} {M : List Nat} (h : OwnR w B e s a n cap cs) (hs : Stay w w' M) (hd : ∀ k, a.map (·.block) = some k → k ∉ M) : OwnR w' B e s a n cap cs :=
  h.kept fun k hk => hs.block k (h.lt hk).2.1 (hd k hk)
/-- Rows of pointers. -/
def pcells (ls : List Nat) : List Value := ls.map ptr
abbrev OwnP (w : World) (B : Nat) (e : TypeId) (a : Option Addr) (n cap : Nat) (ls : List Nat) : Prop := OwnR w B e 1 a n cap (pcells ls)
theorem Tryz.infoT : (Tryz.prog.info? 117).map (fun i => (i.zero, i.size, i.bytes)) = some (some (.pointer none), 1, 8) := by kernel_rfl
theorem Tryz.infoL : (Tryz.prog.info? 115).map (fun i => (i.zero, i.size, i.bytes)) = some (some (.pointer none), 1, 8) := by kernel_rfl
theorem eltT : Elt 158 117 1 8 := elt_of Tryz.underlying158 Tryz.infoT rfl (by decide)
theorem eltL : Elt 119 115 1 8 := elt_of Tryz.underlying119 Tryz.infoL rfl (by decide)
theorem pcells_append (l r : List Nat) : pcells (l ++ r) = pcells l ++ pcells r := List.map_append ..
theorem pcells_one {ls : List Nat} : ∀ u ∈ pcells ls, u.oneCell' = true := by
  intro u hu
  obtain ⟨i, -, rfl⟩ := List.mem_map.1 hu
  rfl
theorem OwnP.len {w : World} {B : Nat} {e : TypeId} {a : Option Addr} {n cap : Nat} {ls : List Nat} (h : OwnP w B e a n cap ls) : ls.length = n := by have := OwnR.len h; simpa [pcells] using this
theorem OwnP.cell {w : World} {B : Nat} {e : TypeId} {g n cap : Nat} {ls : List Nat} (h : OwnP w B e (some ⟨g, 0, none⟩) n cap ls) {j p : Nat} (hj : ls[j]? = some p) : w.cell? ⟨g, j, none⟩ = some (ptr p) := by
  have hl := OwnP.len h
  have hlt : j < ls.length := by
    rcases Nat.lt_or_ge j ls.length with h1 | h1
    · exact h1
    · rw [List.getElem?_eq_none h1] at hj; cases hj
  obtain ⟨g', h1, h2⟩ := OwnR.at h (by omega)
  cases h1
  exact h2 _ _ (by rw [pcells, List.getElem?_map, hj]; rfl)
/-- A table: where it lies, its slots. -/
structure Tb where
  p : Nat
  b : Nat
  G : Nat
  z : List Cl
def Tb.es (t : Tb) : List En := ents t.z
def Tb.fp (t : Tb) : List Nat := [t.p, t.b]
def tsEs (ts : List Tb) : List En := ts.flatMap Tb.es
def tsFp (ts : List Tb) : List Nat := ts.flatMap Tb.fp
/-- A leaf: its own depth, its bits; where it lies, where the row of its tables; its tables. -/
structure Lf where
  l : Nat
  q : Nat
  a : Nat
  tb : Nat
  cap : Nat
  ts : List Tb
def Lf.es (f : Lf) : List En := tsEs f.ts
def Lf.fp (f : Lf) : List Nat := f.a :: f.tb :: tsFp f.ts
def Lf.pt (f : Lf) : Pt := (f.l, f.q)
theorem tsEs_append (a b : List Tb) : tsEs (a ++ b) = tsEs a ++ tsEs b := List.flatMap_append ..
theorem tsEs_cons (t : Tb) (b : List Tb) : tsEs (t :: b) = t.es ++ tsEs b := List.flatMap_cons ..
theorem tsEs_one (t : Tb) : tsEs [t] = t.es := by rw [tsEs_cons]; exact List.append_nil _
theorem tsFp_append (a b : List Tb) : tsFp (a ++ b) = tsFp a ++ tsFp b := List.flatMap_append ..
theorem tsFp_cons (t : Tb) (b : List Tb) : tsFp (t :: b) = t.p :: t.b :: tsFp b := by rw [tsFp, List.flatMap_cons]; rfl
theorem mem_tsFp {ts : List Tb} {t : Tb} (h : t ∈ ts) : t.p ∈ tsFp ts ∧ t.b ∈ tsFp ts :=
  ⟨List.mem_flatMap.2 ⟨t, h, by simp [Tb.fp]⟩, List.mem_flatMap.2 ⟨t, h, by simp [Tb.fp]⟩⟩
/-- A leaf in memory. -/
structure Leaf (w : World) (B x : Nat) (f : Lf) : Prop where
  blk : w.heap[f.a]? = some (.cells #[.int .i64 (f.l : Nat), .slice (some ⟨f.tb, 0, none⟩) f.ts.length f.cap] 160 (0, 0))
  row : OwnP w B 117 (some ⟨f.tb, 0, none⟩) f.ts.length f.cap (f.ts.map (·.p))
  tab : ∀ t ∈ f.ts, Tab w B t.p t.b x t.G t.z
  low : B ≤ f.a
  nod : f.fp.Nodup
  key : (keysOf f.es).Nodup
  pos : 0 < f.ts.length
theorem Leaf.lt {w : World} {B x : Nat} {f : Lf} (h : Leaf w B x f) : f.a < w.heap.size := (Array.getElem?_eq_some_iff.1 h.blk).1
theorem Leaf.fplt {w : World} {B x : Nat} {f : Lf} (h : Leaf w B x f) : ∀ k ∈ f.fp, B ≤ k ∧ k < w.heap.size := by
  intro k hk
  rcases List.mem_cons.1 hk with rfl | hk
  · exact ⟨h.low, h.lt⟩
  rcases List.mem_cons.1 hk with rfl | hk
  · have := OwnR.lt h.row (k := f.tb) rfl
    exact ⟨this.1, this.2.1⟩
  · obtain ⟨t, ht, hk⟩ := List.mem_flatMap.1 hk
    have hT := h.tab t ht
    simp only [Tb.fp, List.mem_cons, List.not_mem_nil, or_false] at hk
    rcases hk with rfl | rfl
    · exact ⟨hT.low, hT.top.lt⟩
    · exact ⟨hT.lowb, hT.row.lt⟩
theorem Leaf.stay {w w' : World} {B x : Nat} {f : Lf} {M : List Nat} (h : Leaf w B x f) (hs : Stay w w' M) (hd : ∀ k ∈ f.fp, k ∉ M) : Leaf w' B x f := by
  refine ⟨by rw [hs.block f.a h.lt (hd _ (by simp [Lf.fp]))]; exact h.blk, OwnR.stay h.row hs (fun k hk => hd k (by cases hk; simp [Lf.fp])), fun t ht => (h.tab t ht).stay hs (hd _ ?_) (hd _ ?_), h.low, h.nod, h.key, h.pos⟩
  · exact List.mem_cons_of_mem _ (List.mem_cons_of_mem _ (mem_tsFp ht).1)
  · exact List.mem_cons_of_mem _ (List.mem_cons_of_mem _ (mem_tsFp ht).2)
theorem Leaf.keep {w w' : World} {B x : Nat} {f : Lf} (h : Leaf w B x f) (hb : Below w.heap.size w w') : Leaf w' B x f := h.stay (Stay.of_below hb []) (fun _ _ => by simp)
theorem Leaf.own {w : World} {B x : Nat} {f : Lf} (h : Leaf w B x f) : w.cell? ⟨f.a, 0, none⟩ = some (.int .i64 (f.l : Nat)) := by simp [World.cell?, h.blk]
theorem Leaf.tabs {w : World} {B x : Nat} {f : Lf} (h : Leaf w B x f) : w.cell? ⟨f.a, 1, none⟩ = some (.slice (some ⟨f.tb, 0, none⟩) f.ts.length f.cap) := by simp [World.cell?, h.blk]
theorem Leaf.frozen {w : World} {B x : Nat} {f : Lf} (h : Leaf w B x f) (o : Nat) : w.frozen? ⟨f.a, o, none⟩ = false := by simp [World.frozen?, h.blk]
theorem Leaf.at {w : World} {B x : Nat} {f : Lf} (h : Leaf w B x f) {i : Nat} {t : Tb} (hi : f.ts[i]? = some t) : w.cell? ⟨f.tb, i, none⟩ = some (ptr t.p) :=
  OwnP.cell h.row (by rw [List.getElem?_map, hi]; rfl)
theorem Leaf.max {w : World} {B x : Nat} {f : Lf} (h : Leaf w B x f) : f.ts.length ≤ 9223372036854775807 := by have := OwnR.cap h.row; unfold maxLen at this; omega
theorem take_more {α : Type} {l : List α} {i : Nat} {t : α} (hi : l[i]? = some t) : l.take (i + 1) = l.take i ++ [t] := by rw [List.take_add_one, hi]; rfl
theorem get_of_lt {α : Type} {l : List α} {i : Nat} (hi : i < l.length) : ∃ t, l[i]? = some t ∧ t ∈ l := ⟨l[i], List.getElem?_eq_getElem hi, List.getElem_mem hi⟩
theorem size_any (B x : Nat) (f : Lf) (w : World) (hL : Leaf w B x f) (hn : f.es.length ≤ 1000000) :
    Calls Tryz.prog 184 #[ptr f.a] w fun e w' => e = .returned (.int .i64 (f.es.length : Nat)) ∧ w' = w := by
  have HL : Hid (Leaf w B x f) := hL
  have hc := hL.tabs
  have hmx := hL.max
  have HN : Hid (f.es.length ≤ 1000000) := hn
  have HE : Hid (f.es = tsEs f.ts) := rfl
  generalize hm : f.ts.length = m at hc hmx
  have HM : Hid (f.ts.length = m) := hm
  clear hL hn hm
  go_enter Tryz.func184, Tryz.ntmps184
  go_wp2
  go_loopg [3, 5, 11] m (fun q nv tv iv wr => w = wr ∧ ∃ i : Nat, i + q = m ∧ iv = .int .i64 i ∧ nv = .int .i64 ((tsEs (f.ts.take i)).length : Nat))
  case atStart => exact ⟨rfl, 0, by omega, rfl, rfl⟩
  case round =>
    obtain ⟨rfl, i, hi, rfl, rfl⟩ := hrel
    by_cases h8 : (i : Int) < m
    · obtain ⟨t, ht, htm⟩ := get_of_lt (l := f.ts) (i := i) (by have := HM.out; omega)
      have hk := HL.out.at ht
      have hLen := Len_any _ _ _ _ _ _ _ (HL.out.tab t htm)
      have HS : Hid ((tsEs (f.ts.take (i + 1))).length = (tsEs (f.ts.take i)).length + (ents t.z).length) := by show _ = _; rw [take_more ht, tsEs_append, List.length_append, tsEs_one]; rfl
      have hle : (tsEs (f.ts.take (i + 1))).length ≤ 1000000 := by
        have h1 := HN.out
        rw [HE.out, ← List.take_append_drop (i + 1) f.ts, tsEs_append, List.length_append] at h1
        omega
      rw [HS.out] at hle
      generalize (tsEs (f.ts.take i)).length = c at HS hle ⊢
      generalize (ents t.z).length = d at HS hle hLen
      clear ht htm
      go_wp2_with fail
      refine hLen.mono ?_
      rintro e w ⟨rfl, rfl⟩
      go_wp2
      go_roundg (gk - 1)
      case measure => omega
      case rel => exact ⟨rfl, i + 1, by omega, by go_num, by rw [HS.out]; go_num⟩
    · have HT : Hid (f.ts.take i = f.ts) := by show _ = _; rw [List.take_of_length_le (by have := HM.out; omega)]
      rw [HT.out]
      go_wp2
      go_ret
      exact ⟨rfl, rfl⟩
theorem keysOf_append (a b : List En) : keysOf (a ++ b) = keysOf a ++ keysOf b := List.map_append ..
theorem splits_any (B x : Nat) (f : Lf) (w : World) (hL : Leaf w B x f) (hl : f.l ≤ 16) (hn : f.es.length ≤ 1000000) :
    Calls Tryz.prog 138 #[ptr f.a] w fun e w' => e = .returned (.bool (decide (f.l < 16) && decide (112 ≤ f.es.length))) ∧ w' = w := by
  have hS := fun w hL => size_any B x f w hL hn
  have hc := hL.own
  have HL : Hid (Leaf w B x f) := hL
  generalize f.es.length = m at hS hn ⊢
  generalize f.l = l at hc hl ⊢
  by_cases h1 : l < 16
  · have HR : Hid (decide (l < 16) = true) := decide_eq_true h1
    have h1z : (l : Int) < 16 := by omega
    clear hL
    go_enter Tryz.func138, Tryz.ntmps138
    go_wp2_with fail
    refine (hS _ HL.out).mono ?_
    rintro e w ⟨rfl, rfl⟩
    by_cases h2 : 112 ≤ m
    · have h2z : (112 : Int) ≤ m := by omega
      have HR2 : Hid (decide (112 ≤ m) = true) := decide_eq_true h2
      clear h2
      go_wp2
      go_ret
      exact ⟨by rw [HR.out, HR2.out]; rfl, rfl⟩
    · have h2z : decide ((112 : Int) ≤ m) = false := decide_eq_false (by omega)
      have HR2 : Hid (decide (112 ≤ m) = false) := decide_eq_false h2
      clear h2
      go_wp2
      go_ret
      exact ⟨by rw [HR.out, HR2.out]; rfl, rfl⟩
  · have HR : Hid (decide (l < 16) = false) := decide_eq_false h1
    obtain rfl : l = 16 := by omega
    clear hL
    go_enter Tryz.func138, Tryz.ntmps138
    go_wp2
    go_ret
    exact ⟨by rw [HR.out]; rfl, rfl⟩
/-- The table that has a key, or none. -/
theorem holder_yes (B x : Nat) (f : Lf) (k : ByteArray) (w : World) (hL : Leaf w B x f) (hks : k.size ≤ maxLen) (hk : k ∈ keysOf f.es) :
    Calls Tryz.prog 136 #[ptr f.a, .string k] w fun e w' => Below w.heap.size w w' ∧ ∃ t, e = .returned (ptr t.p) ∧ t ∈ f.ts ∧ k ∈ keysOf t.es := by
  have HL : Hid (Leaf w B x f) := hL
  have hc := hL.tabs
  have hmx := hL.max
  have HK : Hid (k ∈ keysOf (tsEs f.ts)) := hk
  have HKS : Hid (k.size ≤ maxLen) := hks
  generalize hm : f.ts.length = m at hc hmx
  have HM : Hid (f.ts.length = m) := hm
  clear hL hm hk hks
  go_enter Tryz.func136, Tryz.ntmps136
  go_wp2
  go_loopg [6, 7, 8, 14] m (fun q tv vv bv iv wr => ∃ i : Nat, i + q = m ∧ iv = .int .i64 i ∧ Hid (k ∉ keysOf (tsEs (f.ts.take i))) ∧ Hid (Below w.heap.size w wr))
  case atStart => exact ⟨0, by omega, rfl, (by simp [tsEs] : k ∉ _), Below.refl _ _⟩
  case round =>
    obtain ⟨i, hi, rfl, HNo, HB⟩ := hrel
    by_cases h8 : (i : Int) < m
    · obtain ⟨t, ht, htm⟩ := get_of_lt (l := f.ts) (i := i) (by have := HM.out; omega)
      have hcc := (HL.out.keep HB.out).at ht
      have HTab : Hid (Tab wr B t.p t.b x t.G t.z) := (HL.out.keep HB.out).tab t htm
      have HMm : Hid (t ∈ f.ts) := htm
      by_cases hin : k ∈ (ents t.z).map (·.1)
      · obtain ⟨⟨k0, v⟩, hv, rfl⟩ := List.mem_map.1 hin
        have hG := Get_some _ _ _ _ _ _ k0 v _ HTab.out HKS.out hv
        have HIn : Hid ((k0, v) ∈ t.es) := hv
        clear ht htm hin hv
        go_wp2_with fail
        refine hG.mono ?_
        rintro e w1 ⟨rfl, hb1⟩
        have HB1 := step_below HB hb1
        clear hb1 hG
        go_wp2
        go_ret
        exact ⟨HB1.out, t, rfl, HMm.out, v, HIn.out⟩
      · have hG := Get_none _ _ _ _ _ _ k _ HTab.out HKS.out hin
        have HNo1 : Hid (k ∉ keysOf (tsEs (f.ts.take (i + 1)))) := by
          show k ∉ _
          rw [take_more ht, tsEs_append, keysOf_append, tsEs_one, List.mem_append]
          exact fun h => h.elim HNo.out hin
        clear ht htm hin
        go_wp2_with fail
        refine hG.mono ?_
        rintro e w1 ⟨rfl, hb1⟩
        have HB1 := step_below HB hb1
        clear hb1 hG
        go_wp2
        go_roundg (gk - 1)
        case measure => omega
        case rel => exact ⟨i + 1, by omega, by go_num, HNo1, HB1⟩
    · exact absurd HK.out (by have := HNo.out; rw [List.take_of_length_le (by have := HM.out; omega)] at this; exact this)
theorem holder_no (B x : Nat) (f : Lf) (k : ByteArray) (w : World) (hL : Leaf w B x f) (hks : k.size ≤ maxLen) (hk : k ∉ keysOf f.es) :
    Calls Tryz.prog 136 #[ptr f.a, .string k] w fun e w' => e = .returned (.pointer none) ∧ Below w.heap.size w w' := by
  have HL : Hid (Leaf w B x f) := hL
  have hc := hL.tabs
  have hmx := hL.max
  have HK : Hid (∀ t ∈ f.ts, k ∉ (ents t.z).map (·.1)) := fun t ht h => hk (by
    obtain ⟨e, he, h1⟩ := List.mem_map.1 h
    exact List.mem_map.2 ⟨e, List.mem_flatMap.2 ⟨t, ht, he⟩, h1⟩)
  have HKS : Hid (k.size ≤ maxLen) := hks
  generalize hm : f.ts.length = m at hc hmx
  have HM : Hid (f.ts.length = m) := hm
  clear hL hm hk hks
  go_enter Tryz.func136, Tryz.ntmps136
  go_wp2
  go_loopg [6, 7, 8, 14] m (fun q tv vv bv iv wr => ∃ i : Nat, i + q = m ∧ iv = .int .i64 i ∧ Hid (Below w.heap.size w wr))
  case atStart => exact ⟨0, by omega, rfl, Below.refl _ _⟩
  case round =>
    obtain ⟨i, hi, rfl, HB⟩ := hrel
    by_cases h8 : (i : Int) < m
    · obtain ⟨t, ht, htm⟩ := get_of_lt (l := f.ts) (i := i) (by have := HM.out; omega)
      have hcc := (HL.out.keep HB.out).at ht
      have hG := Get_none _ _ _ _ _ _ k _ ((HL.out.keep HB.out).tab t htm) HKS.out (HK.out t htm)
      clear ht htm
      go_wp2_with fail
      refine hG.mono ?_
      rintro e w1 ⟨rfl, hb1⟩
      have HB1 := step_below HB hb1
      clear hb1 hG
      go_wp2
      go_roundg (gk - 1)
      case measure => omega
      case rel => exact ⟨i + 1, by omega, by go_num, HB1⟩
    · go_wp2
      go_ret
      exact ⟨rfl, HB.out⟩
theorem size_alloc (w : World) (o : Obj) : (w.alloc o).heap.size = w.heap.size + 1 := by
  show (w.heap.push o).size = _
  exact Array.size_push ..
/-- A leaf of one table that was made just now. -/
theorem newLeaf_any (l p : Nat) (w : World) :
    Calls Tryz.prog 44 #[.int .i64 (l : Nat), ptr p] w fun e w' => Below w.heap.size w w' ∧ ∃ a, e = .returned (ptr a) ∧ w.heap.size < a ∧ a < w'.heap.size ∧
      w'.heap[a]? = some (.cells #[.int .i64 (l : Nat), .slice (some ⟨w.heap.size, 0, none⟩) 1 1] 160 (0, 0)) ∧ OwnP w' w.heap.size 117 (some ⟨w.heap.size, 0, none⟩) 1 1 [p] := by
  obtain ⟨w1, hw1⟩ : ∃ w1, w.alloc (.cells #[ptr p] 117) = w1 := ⟨_, rfl⟩
  have HB1 : Hid (Below w.heap.size w w1) := by show Below _ _ _; rw [← hw1]; exact alloc_below w _
  have HS1 : Hid (w1.heap.size = w.heap.size + 1) := by show _ = _; rw [← hw1]; exact size_alloc w _
  have HO1 : Hid (OwnP w1 w.heap.size 117 (some ⟨w.heap.size, 0, none⟩) 1 1 [p]) := by
    show OwnP _ _ _ _ _ _ _
    rw [← hw1]
    exact ⟨rfl, .inr ⟨w.heap.size, 1, #[ptr p], rfl, Nat.le_refl _, heap_alloc_new w _, Nat.le_refl _, by decide, rfl, rfl⟩⟩
  obtain ⟨w2, hw2⟩ : ∃ w2, w1.alloc (.cells #[.int .i64 (l : Nat), .slice (some ⟨w.heap.size, 0, none⟩) 1 1] 160) = w2 := ⟨_, rfl⟩
  have HB2 : Hid (Below w1.heap.size w1 w2) := by show Below _ _ _; rw [← hw2]; exact alloc_below w1 _
  have HS2 : Hid (w2.heap.size = w1.heap.size + 1) := by show _ = _; rw [← hw2]; exact size_alloc w1 _
  have HK2 : Hid (w2.heap[w1.heap.size]? = some (.cells #[.int .i64 (l : Nat), .slice (some ⟨w.heap.size, 0, none⟩) 1 1] 160 (0, 0))) := by show _ = _; rw [← hw2]; exact heap_alloc_new w1 _
  go_enter Tryz.func44, Tryz.ntmps44
  go_wp2
  go_ret
  refine ⟨(step_below HB1 HB2.out).out, w1.heap.size, rfl, by have := HS1.out; omega, by have := HS2.out; omega, HK2.out, OwnR.keep HO1.out HB2.out⟩
theorem Tryz.size59 (w : World) : (sizeOf 117).run Tryz.prog w = .ok 1 w := by go_simp
theorem Tryz.elem158 : Tryz.prog.elem 158 = 117 := by simp [Program.elem, Tryz.underlying158]
/-- Block g has these cells. -/
def Bk (w : World) (g : Nat) (cur : List Value) : Prop := w.heap[g]? = some (.cells cur.toArray 117 (0, 0))
theorem Bk.lt {w : World} {g : Nat} {cur : List Value} (h : Bk w g cur) : g < w.heap.size := (Array.getElem?_eq_some_iff.1 h).1
theorem Bk.cell {w : World} {g : Nat} {cur : List Value} (h : Bk w g cur) (j : Nat) : w.cell? ⟨g, j, none⟩ = cur[j]? := by
  have h' : w.heap[g]? = some (.cells cur.toArray 117 (0, 0)) := h
  simp [World.cell?, h']
theorem Bk.frozen {w : World} {g : Nat} {cur : List Value} (h : Bk w g cur) (j : Nat) : w.frozen? ⟨g, j, none⟩ = false := by
  have h' : w.heap[g]? = some (.cells cur.toArray 117 (0, 0)) := h
  simp [World.frozen?, h']
theorem Bk.drew {w : World} {g : Nat} {cur : List Value} (h : Bk w g cur) : Bk w.drew g cur := h
theorem grown_refl (w : World) (row : Option Nat) : w.grownBy w row := ⟨rfl, rfl, rfl, Nat.le_refl _, fun _ _ _ => rfl⟩
theorem grown_trans {w w1 w2 : World} {row : Option Nat} (h1 : w.grownBy w1 row) (h2 : w1.grownBy w2 row) : w.grownBy w2 row :=
  ⟨h2.os.trans h1.os, h2.tape.trans h1.tape, h2.output.trans h1.output, Nat.le_trans h1.size h2.size, fun k hk hr => (h2.block k (Nat.lt_of_lt_of_le hk h1.size) hr).trans (h1.block k hk hr)⟩
theorem drew_grown {w w1 : World} {row : Option Nat} (h : w.drew.grownBy w1 row) : w.grownBy w1 row := ⟨h.os, h.tape, h.output, h.size, h.block⟩
theorem grown_setCell (w : World) (g o : Nat) (v : Value) : w.grownBy (w.setCell ⟨g, o, none⟩ v) (some g) :=
  ⟨rfl, rfl, rfl, by simp [World.setCell], fun k _ hr => Deep.blk_setCell_other w _ v k (fun e => hr (by rw [e]))⟩
theorem OwnP.parts {w : World} {B : Nat} {a : Option Addr} {n c : Nat} {l : List Nat} (h : OwnP w B 117 a n c l) (h0 : 0 < n) :
    ∃ g cur, a = some ⟨g, 0, none⟩ ∧ B ≤ g ∧ Bk w g cur ∧ n ≤ c ∧ c ≤ maxLen ∧ cur.length = c ∧ cur.take n = pcells l := by
  rcases h.2 with ⟨h2, h3⟩ | ⟨g, c', cur, h1, h3, h4, h5, h6, h7, h8⟩
  · omega
  · cases h1
    refine ⟨g, cur.toList, rfl, h3, by show _ = _; simpa using h4, h5, h6, by simpa using h7, ?_⟩
    simpa using h8
theorem OwnP.of {w : World} {B g n c : Nat} {cur : List Value} {l : List Nat} (hB : B ≤ g) (hk : Bk w g cur) (hn : n ≤ c) (hc : c ≤ maxLen) (hl : cur.length = c) (ht : cur.take n = pcells l) : OwnP w B 117 (some ⟨g, 0, none⟩) n c l := by
  have hlen : l.length = n := by
    have := congrArg List.length ht
    simp [pcells] at this
    omega
  refine ⟨by simp [pcells, hlen], .inr ⟨g, c, cur.toArray, rfl, hB, hk, hn, hc, by simp [hl], by simpa using ht⟩⟩
/-- s[lo:hi], s[lo:], s[:hi] of a row at its place. -/
theorem slice_at (g n c lo hi : Nat) (h1 : lo ≤ hi) (h2 : hi ≤ c) :
    ∃ o, (lo < c → o = lo) ∧ ∀ wx, (Instr.sliceAt 158 (.slice (some ⟨g, 0, none⟩) n c) (some (.int .i64 lo)) (some (.int .i64 hi)) none).run Tryz.prog wx = .ok (.slice (some ⟨g, o, none⟩) (hi - lo) (c - lo)) wx := by
  have ht : Tryz.prog.underlying 158 = some (.slice (Tryz.prog.elem 158)) := by rw [Tryz.elem158]; exact Tryz.underlying158
  refine ⟨if c = lo then 0 else lo, fun h => by rw [if_neg (by omega)], fun wx => ?_⟩
  rw [run_sliceAt_slice _ _ _ _ _ _ ht, run_slice_lh (P := Tryz.prog) wx 158 _ n c ht .i64 .i64 lo hi (by omega) (by omega) (by omega), Tryz.elem158, Tryz.size59]
  simp only [Result.andThen, sliced, Int.toNat_natCast]
  split <;> simp [*, add_flat]
theorem slice_lo (g n c lo : Nat) (h1 : lo ≤ n) :
    ∃ o, (lo < c → o = lo) ∧ ∀ wx, (Instr.sliceAt 158 (.slice (some ⟨g, 0, none⟩) n c) (some (.int .i64 lo)) none none).run Tryz.prog wx = .ok (.slice (some ⟨g, o, none⟩) (n - lo) (c - lo)) wx := by
  have ht : Tryz.prog.underlying 158 = some (.slice (Tryz.prog.elem 158)) := by rw [Tryz.elem158]; exact Tryz.underlying158
  refine ⟨if c = lo then 0 else lo, fun h => by rw [if_neg (by omega)], fun wx => ?_⟩
  rw [run_sliceAt_slice _ _ _ _ _ _ ht, run_slice_l (P := Tryz.prog) wx 158 _ n c ht .i64 lo (by omega) (by omega), Tryz.elem158, Tryz.size59]
  simp only [Result.andThen, sliced, Int.toNat_natCast]
  split <;> simp [*, add_flat]
theorem slice_hi (g n c hi : Nat) (h1 : hi ≤ c) :
    ∀ wx, (Instr.sliceAt 158 (.slice (some ⟨g, 0, none⟩) n c) none (some (.int .i64 hi)) none).run Tryz.prog wx = .ok (.slice (some ⟨g, 0, none⟩) hi c) wx := by
  have ht : Tryz.prog.underlying 158 = some (.slice (Tryz.prog.elem 158)) := by rw [Tryz.elem158]; exact Tryz.underlying158
  intro wx
  rw [run_sliceAt_slice _ _ _ _ _ _ ht, run_slice_h (P := Tryz.prog) wx 158 _ n c ht .i64 hi (by omega) (by omega), Tryz.elem158, Tryz.size59]
  simp [Result.andThen, sliced, add_flat]
theorem cur_set {w : World} {g : Nat} {cur : List Value} (h : Bk w g cur) (o : Nat) (v : Value) : Bk (w.setCell ⟨g, o, none⟩ v) g (cur.set o v) := by
  have h' : w.heap[g]? = some (.cells cur.toArray 117 (0, 0)) := h
  have hlt : g < w.heap.size := (Array.getElem?_eq_some_iff.1 h').1
  have hv : w.heap[g] = .cells cur.toArray 117 (0, 0) := (Array.getElem?_eq_some_iff.1 h').2
  show (w.setCell ⟨g, o, none⟩ v).heap[g]? = _
  simp [World.setCell, Array.getElem?_modify, h']
theorem splice_set (cur : List Value) (o : Nat) (v : Value) (vs : List Value) (h : o + (vs.length + 1) ≤ cur.length) : splice (cur.set o v) (o + 1) vs = splice cur o (v :: vs) := by
  unfold splice
  rw [List.length_cons, List.take_set, List.drop_set_of_lt (by omega), show o + 1 + vs.length = o + (vs.length + 1) by omega]
  have : (cur.take (o + 1)).set o v = cur.take o ++ [v] := by
    rw [List.take_add_one, List.getElem?_eq_getElem (by omega), Option.toList_some, List.set_append_right _ _ (by rw [List.length_take]; omega)]
    rw [List.length_take, Nat.min_eq_left (by omega), Nat.sub_self]; rfl
  rw [this, List.append_assoc]; rfl
theorem bk_cells {g : Nat} : ∀ (vs : List Value) (o : Nat) (w : World) (cur : List Value), Bk w g cur → o + vs.length ≤ cur.length → Bk (w.setCells g o vs) g (splice cur o vs) ∧ w.grownBy (w.setCells g o vs) (some g)
  | [], o, w, cur, h, hl => ⟨by simpa [splice, World.setCells] using h, grown_refl _ _⟩
  | v :: vs, o, w, cur, h, hl => by
    have h1 := bk_cells vs (o + 1) (w.setCell ⟨g, o, none⟩ v) (cur.set o v) (cur_set h o v) (by simp at hl ⊢; omega)
    rw [splice_set cur o v vs (by simpa using hl)] at h1
    exact ⟨h1.1, grown_trans (grown_setCell w g o v) h1.2⟩
/-- clear(d), d in block g. -/
theorem clear_in {w : World} {ops : Array Oper} {rest : List Oper} {o : Oper} {ac : Act} {Q : Exit → Act → World → Prop} (hgd : o.guard = none) (d : Operand) (ho : o.op = .call { callee := .builtin .clear, args := #[d], argTypes := #[158] })
    {g off dLen dCap : Nat} (hd : ac.eval d = .slice (some ⟨g, off, none⟩) dLen dCap) (cur : List Value) (hB : Bk w g cur) (hfit : off + dLen ≤ cur.length)
    (h : ∀ w', Hid (Bk w' g (splice cur off (List.replicate dLen (.pointer none)))) → Hid (w.grownBy w' (some g)) → wpList Tryz.prog ops Q rest (ac.put o.dst (.tuple #[])) w') : wpList Tryz.prog ops Q (o :: rest) ac w := by
  by_cases h0 : dLen = 0
  · subst h0
    have hr : ∀ ty, (Builtin.clear_ #[158] ty #[.slice (some ⟨g, off, none⟩) 0 dCap]).run Tryz.prog w = .ok (.tuple #[]) w := by
      intro ty
      simp [Builtin.clear_, run_underlying Tryz.underlying158]
    refine wpList_plain hgd fun K hK => ?_
    unfold Oper.wp
    simp [execOp, ho, resolve, invoke, builtin, hd, hr, Result.andThen]
    exact hK _ _ (h w (by show Bk _ _ _; simpa [splice] using hB) (grown_refl _ _))
  · have hz : ∀ w, (zeroValue 117).run Tryz.prog w = .ok (.pointer none) w := fun w => by go_simp
    have hr := fun ty => Lib.run_clear_slice (P := Tryz.prog) w 158 117 ty (.pointer none) Tryz.underlying158 hz rfl rfl g off dLen dCap (by omega)
      (fun j hj => by rw [hB.cell, List.getElem?_eq_getElem (by omega)]; rfl) (fun j hj => hB.frozen _)
    have hb := bk_cells (List.replicate dLen (.pointer none)) off w cur hB (by simpa using hfit)
    refine wpList_plain hgd fun K hK => ?_
    unfold Oper.wp
    simp [execOp, ho, resolve, invoke, builtin, hd, hr, Result.andThen]
    exact hK _ _ (h _ hb.1 hb.2)
theorem pcells_len (l : List Nat) : (pcells l).length = l.length := List.length_map ..
theorem pcells_take (l : List Nat) (n : Nat) : (pcells l).take n = pcells (l.take n) := (List.map_take ..).symm
theorem pcells_drop (l : List Nat) (n : Nat) : (pcells l).drop n = pcells (l.drop n) := (List.map_drop ..).symm
theorem of_take {cur L : List Value} {n : Nat} (h : cur.take n = L) (j : Nat) (hj : j < n) : cur[j]? = L[j]? := by rw [← h, List.getElem?_take, if_pos hj]
theorem cell_of {w : World} {g : Nat} {cur : List Value} {l : List Nat} {n : Nat} (hB : Bk w g cur) (ht : cur.take n = pcells l) (i : Nat) (hl : l.length ≤ n) : ∀ j v, (pcells (l.drop i))[j]? = some v → w.cell? ((⟨g, i, none⟩ : Addr).add j) = some v := by
  intro j v hv
  rw [add_flat, hB.cell]
  have hj : i + j < l.length := by
    rw [← pcells_drop, List.getElem?_drop] at hv
    have := (List.getElem?_eq_some_iff.1 hv).1
    rwa [pcells_len] at this
  rw [of_take ht _ (by omega)]
  rw [← pcells_drop, List.getElem?_drop] at hv
  exact hv
theorem run_append_in (w : World) (g n c : Nat) (cur : List Value) (hB : Bk w g cur) (hc : cur.length = c) (ad : Addr) (m xc : Nat) (cs : List Value) (hm : cs.length = m) (hsrc : ∀ j v, cs[j]? = some v → w.cell? (ad.add j) = some v) (h1 : ∀ v ∈ cs, v.oneCell' = true) (hroom : n + m ≤ c) :
    ∃ w', (∀ ty, (Builtin.append_ #[158, 158] ty #[.slice (some ⟨g, 0, none⟩) n c, .slice (some ad) m xc]).run Tryz.prog w = .ok (.slice (some ⟨g, 0, none⟩) (n + m) c) w') ∧ Bk w' g (splice cur n cs) ∧ w.grownBy w' (some g) := by
  obtain ⟨i0, hi, hz0, hz1, hz2⟩ := info_parts Tryz.infoT
  have hb := bk_cells cs n w cur hB (by omega)
  refine ⟨_, fun ty => ?_, hb.1, hb.2⟩
  have hrun := run_append_room_cells (P := Tryz.prog) w 158 ty 117 i0 Tryz.underlying158 hi g 0 n c ad m xc cs (by rw [hz1]; omega) hsrc h1 hroom
    (fun j hj => by rw [hB.cell, hz1, List.getElem?_eq_getElem (by omega)]; rfl) (fun j hj => hB.frozen _)
  rw [hrun, hz1, Nat.zero_add, Nat.mul_one]
theorem step_append_in {w : World} {ops : Array Oper} {o : Oper} {ac : Act} {K : Act → World → Prop} {Q : Exit → Act → World → Prop} {E : Prop} (hgd : o.guard = none) (s x : Operand) (ho : o.op = .call { callee := .builtin .append, args := #[s, x], argTypes := #[158, 158] })
    {g n c : Nat} {ad : Addr} {m xc : Nat} (hs : ac.eval s = .slice (some ⟨g, 0, none⟩) n c) (hx : ac.eval x = .slice (some ad) m xc) (cur : List Value) (hB : Bk w g cur) (hc : cur.length = c) (cs : List Value) (hm : cs.length = m)
    (hsrc : ∀ j v, cs[j]? = some v → w.cell? (ad.add j) = some v) (h1 : ∀ v ∈ cs, v.oneCell' = true) (hroom : n + m ≤ c)
    (h : ∀ w', Hid (Bk w' g (splice cur n cs)) → Hid (w.grownBy w' (some g)) → K (ac.put o.dst (.slice (some ⟨g, 0, none⟩) (n + m) c)) w') : if Region.wanted o (yielded ops ac.tmps) = true then Oper.wp Tryz.prog o ac w K Q else E := by
  have hw : Region.wanted o (yielded ops ac.tmps) = true := by simp [Region.wanted, hgd]
  rw [if_pos hw]
  obtain ⟨w', hr, h2, h3⟩ := run_append_in w g n c cur hB hc ad m xc cs hm hsrc h1 hroom
  unfold Oper.wp
  simp [execOp, ho, resolve, invoke, builtin, hs, hx, hr, Result.andThen]
  exact h w' h2 h3
theorem take_splice_at (cur cs : List Value) (i : Nat) (h : i + cs.length ≤ cur.length) : (splice cur i cs).take (i + cs.length) = cur.take i ++ cs := by
  unfold splice
  rw [← List.append_assoc, List.take_append_of_le_length (by rw [List.length_append, List.length_take]; omega), List.take_of_length_le (by rw [List.length_append, List.length_take]; omega)]
theorem take_splice_low (cur cs : List Value) (i k : Nat) (h : k ≤ i) (hi : i ≤ cur.length) : (splice cur i cs).take k = cur.take k := by
  unfold splice
  rw [List.take_append_of_le_length (by rw [List.length_take]; omega), List.take_take, Nat.min_eq_left h]
/-- s[lo:hi:max]. -/
theorem slice_lhm (a : Option Addr) (n c lo hi mx : Nat) (h1 : lo ≤ hi) (h2 : hi ≤ mx) (h3 : mx ≤ c) :
    ∃ a', ∀ wx, (Instr.sliceAt 158 (.slice a n c) (some (.int .i64 lo)) (some (.int .i64 hi)) (some (.int .i64 mx))).run Tryz.prog wx = .ok (.slice a' (hi - lo) (mx - lo)) wx := by
  have ht : Tryz.prog.underlying 158 = some (.slice (Tryz.prog.elem 158)) := by rw [Tryz.elem158]; exact Tryz.underlying158
  refine ⟨if mx = lo then a else a.map (·.add (lo * 1)), fun wx => ?_⟩
  rw [run_sliceAt_slice _ _ _ _ _ _ ht, run_slice_lhm (P := Tryz.prog) wx 158 _ n c ht .i64 .i64 .i64 lo hi mx (by omega) (by omega) (by omega) (by omega), Tryz.elem158, Tryz.size59]
  simp only [Result.andThen, sliced, Int.toNat_natCast]
theorem nodup_replace {xs ys : List Nat} {b b' : Nat} (h : (xs ++ b :: ys).Nodup) (h1 : b' ∉ xs) (h2 : b' ∉ ys) : (xs ++ b' :: ys).Nodup := by
  rw [List.nodup_append, List.nodup_cons] at h ⊢
  obtain ⟨k1, ⟨k2, k3⟩, k4⟩ := h
  refine ⟨k1, ⟨h2, k3⟩, fun a ha c hc => ?_⟩
  rcases List.mem_cons.1 hc with rfl | hc
  · rintro rfl; exact h1 ha
  · exact k4 a ha c (List.mem_cons_of_mem _ hc)
theorem fp_parts {f : Lf} {pre post : List Tb} {t : Tb} (e : f.ts = pre ++ t :: post) : f.fp = (f.a :: f.tb :: tsFp pre ++ [t.p]) ++ t.b :: tsFp post := by
  unfold Lf.fp
  rw [e, tsFp_append, tsFp_cons]
  simp
/-- What holds of another table's blocks. -/
theorem fp_apart {f : Lf} {pre post : List Tb} {t : Tb} (hn : f.fp.Nodup) (e : f.ts = pre ++ t :: post) : f.a ∉ [t.p, t.b] ∧ f.tb ∉ [t.p, t.b] ∧ (∀ u ∈ pre, u.p ∉ [t.p, t.b] ∧ u.b ∉ [t.p, t.b]) ∧ (∀ u ∈ post, u.p ∉ [t.p, t.b] ∧ u.b ∉ [t.p, t.b]) := by
  unfold Lf.fp at hn
  rw [e, tsFp_append, tsFp_cons, List.nodup_cons, List.nodup_cons, List.nodup_append, List.nodup_cons, List.nodup_cons] at hn
  obtain ⟨h1, h2, h3, ⟨h4, h5, h6⟩, h7⟩ := hn
  simp only [List.mem_cons, List.mem_append, not_or] at h1 h2 h4
  refine ⟨?_, ?_, ?_, ?_⟩
  · simp only [List.mem_cons, List.not_mem_nil, or_false, not_or]; exact ⟨h1.2.2.1, h1.2.2.2.1⟩
  · simp only [List.mem_cons, List.not_mem_nil, or_false, not_or]; exact ⟨h2.2.1, h2.2.2.1⟩
  · intro u hu
    have hm := mem_tsFp hu
    simp only [List.mem_cons, List.not_mem_nil, or_false, not_or]
    exact ⟨⟨h7 _ hm.1 _ (by simp), h7 _ hm.1 _ (by simp)⟩, h7 _ hm.2 _ (by simp), h7 _ hm.2 _ (by simp)⟩
  · intro u hu
    have hm := mem_tsFp hu
    simp only [List.mem_cons, List.not_mem_nil, or_false, not_or]
    exact ⟨⟨fun e => h4.2 (e ▸ hm.1), fun e => h5 (e ▸ hm.1)⟩, fun e => h4.2 (e ▸ hm.2), fun e => h5 (e ▸ hm.2)⟩
theorem Leaf.turn {w w' : World} {B x : Nat} {f : Lf} {pre post : List Tb} {t : Tb} {b' G' : Nat} {z' : List Cl} (h : Leaf w B x f) (e : f.ts = pre ++ t :: post) (hs : Stay w w' [t.p, t.b]) (hT : Tab w' B t.p b' x G' z') (hb : b' = t.b ∨ w.heap.size ≤ b')
    (hk : (keysOf (tsEs (pre ++ ⟨t.p, b', G', z'⟩ :: post))).Nodup) :
    Leaf w' B x { f with ts := pre ++ ⟨t.p, b', G', z'⟩ :: post } ∧ (∀ j ∈ ({ f with ts := pre ++ ⟨t.p, b', G', z'⟩ :: post } : Lf).fp, j ∈ f.fp ∨ w.heap.size ≤ j) ∧ Stay w w' f.fp := by
  obtain ⟨h1, h2, h3, h4⟩ := fp_apart h.nod e
  have hlen : (pre ++ (⟨t.p, b', G', z'⟩ : Tb) :: post).length = f.ts.length := by rw [e]; simp
  have hps : (pre ++ (⟨t.p, b', G', z'⟩ : Tb) :: post).map (·.p) = f.ts.map (·.p) := by rw [e]; simp
  have hfp : ({ f with ts := pre ++ ⟨t.p, b', G', z'⟩ :: post } : Lf).fp = (f.a :: f.tb :: tsFp pre ++ [t.p]) ++ b' :: tsFp post := fp_parts (f := { f with ts := pre ++ ⟨t.p, b', G', z'⟩ :: post }) rfl
  have hfp0 := fp_parts e
  have hlt := h.fplt
  refine ⟨⟨?_, ?_, ?_, h.low, ?_, hk, ?_⟩, ?_, hs.mono ?_⟩
  · show w'.heap[f.a]? = some (.cells #[.int .i64 (f.l : Nat), .slice (some ⟨f.tb, 0, none⟩) (pre ++ (⟨t.p, b', G', z'⟩ : Tb) :: post).length f.cap] 160 (0, 0))
    rw [hlen, hs.block f.a h.lt h1]
    exact h.blk
  · show OwnP w' B 117 (some ⟨f.tb, 0, none⟩) (pre ++ (⟨t.p, b', G', z'⟩ : Tb) :: post).length f.cap ((pre ++ (⟨t.p, b', G', z'⟩ : Tb) :: post).map (·.p))
    rw [hlen, hps]
    exact OwnR.stay h.row hs (fun k hk => by cases hk; exact h2)
  · intro u hu
    rcases List.mem_append.1 hu with hu | hu
    · exact (h.tab u (by rw [e]; simp [hu])).stay hs (h3 u hu).1 (h3 u hu).2
    · rcases List.mem_cons.1 hu with rfl | hu
      · exact hT
      · exact (h.tab u (by rw [e]; simp [hu])).stay hs (h4 u hu).1 (h4 u hu).2
  · rw [hfp]
    have hn := h.nod
    rw [hfp0] at hn hlt
    rcases hb with rfl | hb
    · exact hn
    · exact nodup_replace hn (fun hm => by have := hlt b' (List.mem_append.2 (.inl hm)); omega) (fun hm => by have := hlt b' (List.mem_append.2 (.inr (List.mem_cons_of_mem _ hm))); omega)
  · show 0 < (pre ++ (⟨t.p, b', G', z'⟩ : Tb) :: post).length
    rw [hlen]; exact h.pos
  · intro j hj
    rw [hfp] at hj
    rw [hfp0]
    rcases List.mem_append.1 hj with hj | hj
    · exact .inl (List.mem_append.2 (.inl hj))
    · rcases List.mem_cons.1 hj with rfl | hj
      · rcases hb with rfl | hb
        · exact .inl (by simp)
        · exact .inr hb
      · exact .inl (List.mem_append.2 (.inr (List.mem_cons_of_mem _ hj)))
  · intro j hj
    rw [hfp0]
    simp only [List.mem_cons, List.not_mem_nil, or_false] at hj
    rcases hj with rfl | rfl <;> simp
/-- No table of a leaf has nothing, but where it is the only one. -/
def Ful (f : Lf) : Prop := f.ts.length = 1 ∨ ∀ t ∈ f.ts, 0 < t.es.length
theorem Ful.le {f : Lf} (h : Ful f) : f.ts.length ≤ f.es.length + 1 := by
  rcases h with h | h
  · omega
  · unfold Lf.es
    generalize f.ts = ts at h
    have : ts.length ≤ (tsEs ts).length := by
      induction ts with
      | nil => exact Nat.zero_le _
      | cons t ts ih =>
        have h1 := h t (by simp)
        have h2 := ih (fun u hu => h u (List.mem_cons_of_mem _ hu))
        rw [tsEs_cons, List.length_append, List.length_cons]
        omega
    omega
/-- What becomes of a leaf: it lies in what was its own, and in new memory. -/
structure Grew (w w' : World) (B x : Nat) (f f' : Lf) : Prop where
  leaf : Leaf w' B x f'
  stay : Stay w w' f.fp
  fps : ∀ j ∈ f'.fp, j ∈ f.fp ∨ w.heap.size ≤ j
  l : f'.l = f.l
  q : f'.q = f.q
  a : f'.a = f.a
theorem Grew.first {w w0 w' : World} {B x : Nat} {f f' : Lf} (h : Grew w w' B x f f') (hb : Below w0.heap.size w0 w) : Grew w0 w' B x f f' :=
  ⟨h.leaf, (Stay.of_below hb f.fp).trans h.stay (fun _ hi => .inl hi), fun j hj => (h.fps j hj).imp id (fun k => Nat.le_trans hb.size k), h.l, h.q, h.a⟩
theorem keys_nodup_add {es es' : List En} {k : ByteArray} {v : Int} (hn : (keysOf es).Nodup) (hk : k ∉ keysOf es) (hp : es'.Perm (es ++ [(k, v)])) : (keysOf es').Nodup := by
  have h1 := (hp.map (·.1)).nodup_iff
  refine h1.2 ?_
  rw [List.map_append, List.nodup_append]
  refine ⟨hn, by simp, fun a ha b hb => ?_⟩
  simp at hb
  subst hb
  rintro rfl
  exact hk ha
theorem mid_perm {pre post : List Tb} {t t' : Tb} {e : List En} (hp : t'.es.Perm (t.es ++ e)) : (tsEs (pre ++ t' :: post)).Perm (tsEs (pre ++ t :: post) ++ e) := by
  rw [tsEs_append, tsEs_append, tsEs_cons, tsEs_cons, List.append_assoc]
  refine List.Perm.append_left _ ?_
  refine (hp.append_right _).trans ?_
  rw [List.append_assoc, List.append_assoc]
  exact List.Perm.append_left _ List.perm_append_comm
theorem not_in_tab {f : Lf} {t : Tb} {k : ByteArray} (hk : k ∉ keysOf f.es) (ht : t ∈ f.ts) : k ∉ (ents t.z).map (·.1) := fun h => hk (by
  obtain ⟨e, he, h1⟩ := List.mem_map.1 h
  exact List.mem_map.2 ⟨e, List.mem_flatMap.2 ⟨t, ht, he⟩, h1⟩)
theorem get_parts {α : Type} {l : List α} {i : Nat} {t : α} (h : l[i]? = some t) : l = l.take i ++ t :: l.drop (i + 1) := by
  obtain ⟨h1, h2⟩ := List.getElem?_eq_some_iff.1 h
  conv => lhs; rw [← List.take_append_drop i l, List.drop_eq_getElem_cons h1, h2]
/-- One table more, behind the others. -/
theorem Leaf.more {w w3 : World} {B x : Nat} {f : Lf} {g3 c3 p b G : Nat} {z : List Cl} (h : Leaf w B x f) (hg : w.grownBy w3 (some f.tb)) (hO : OwnP w3 B 117 (some ⟨g3, 0, none⟩) (f.ts.length + 1) c3 (f.ts.map (·.p) ++ [p])) (hgo : g3 = f.tb ∨ w.heap.size ≤ g3)
    (hT : Tab w B p b x G z) (hp : p ∉ f.fp) (hb : b ∉ f.fp) (hk : (keysOf (f.es ++ ents z)).Nodup) :
    Leaf (w3.setCell ⟨f.a, 1, none⟩ (.slice (some ⟨g3, 0, none⟩) (f.ts.length + 1) c3)) B x { f with tb := g3, cap := c3, ts := f.ts ++ [⟨p, b, G, z⟩] } ∧ (∀ j ∈ ({ f with tb := g3, cap := c3, ts := f.ts ++ [⟨p, b, G, z⟩] } : Lf).fp, j ∈ f.fp ∨ w.heap.size ≤ j ∨ j = p ∨ j = b) := by
  have hpb := hT.top.ne hT.row
  have hnod := h.nod
  have hlt := h.fplt
  have hpl := hT.top.lt
  have hbl := hT.row.lt
  have hfa : f.a ∈ f.fp := by simp [Lf.fp]
  have hft : f.tb ∈ f.fp := by simp [Lf.fp]
  have hfu : ∀ j ∈ tsFp f.ts, j ∈ f.fp := fun j hj => List.mem_cons_of_mem _ (List.mem_cons_of_mem _ hj)
  have hn := h.nod
  unfold Lf.fp at hn
  rw [List.nodup_cons, List.nodup_cons] at hn
  obtain ⟨n1, n2, n3⟩ := hn
  rw [List.mem_cons, not_or] at n1
  have hS : Stay w w3 [f.tb] := Stay.grown hg (fun g e => by cases e; simp)
  have hS2 : Stay w (w3.setCell ⟨f.a, 1, none⟩ (.slice (some ⟨g3, 0, none⟩) (f.ts.length + 1) c3)) [f.tb, f.a] :=
    (hS.mono (by simp)).trans Stay.set (fun i hi => .inl (by simp at hi; simp [hi]))
  have hblk3 : w3.heap[f.a]? = some (.cells #[.int .i64 (f.l : Nat), .slice (some ⟨f.tb, 0, none⟩) f.ts.length f.cap] 160 (0, 0)) := by
    rw [hS.block f.a h.lt (by simpa using n1.1)]; exact h.blk
  have ga : g3 ≠ f.a := by
    rcases hgo with rfl | hgo
    · exact fun e => n1.1 e.symm
    · have := (hlt f.a hfa).2; omega
  have gt : g3 ∉ tsFp f.ts := by
    rcases hgo with rfl | hgo
    · exact n2
    · intro hm; have := (hlt g3 (hfu _ hm)).2; omega
  have gp : g3 ≠ p ∧ g3 ≠ b := by
    rcases hgo with rfl | hgo
    · exact ⟨fun e => hp (e ▸ hft), fun e => hb (e ▸ hft)⟩
    · exact ⟨by omega, by omega⟩
  refine ⟨⟨?_, ?_, ?_, h.low, ?_, ?_, ?_⟩, ?_⟩
  · show (w3.setCell ⟨f.a, 1, none⟩ _).heap[f.a]? = some (.cells #[.int .i64 (f.l : Nat), .slice (some ⟨g3, 0, none⟩) (f.ts ++ [(⟨p, b, G, z⟩ : Tb)]).length c3] 160 (0, 0))
    rw [heap_set hblk3, List.length_append]
    rfl
  · show OwnP _ B 117 (some ⟨g3, 0, none⟩) (f.ts ++ [(⟨p, b, G, z⟩ : Tb)]).length c3 ((f.ts ++ [(⟨p, b, G, z⟩ : Tb)]).map (·.p))
    rw [List.length_append, List.map_append]
    exact OwnR.stay hO (Stay.set (q := f.a)) (fun k hk => by cases hk; simpa using ga)
  · intro u hu
    rcases List.mem_append.1 hu with hu | hu
    · have hm := mem_tsFp hu
      refine (h.tab u hu).stay hS2 ?_ ?_
      · simp only [List.mem_cons, List.not_mem_nil, or_false, not_or]
        exact ⟨fun e => n2 (e ▸ hm.1), fun e => n1.2 (e ▸ hm.1)⟩
      · simp only [List.mem_cons, List.not_mem_nil, or_false, not_or]
        exact ⟨fun e => n2 (e ▸ hm.2), fun e => n1.2 (e ▸ hm.2)⟩
    · cases List.mem_singleton.1 hu
      refine hT.stay hS2 ?_ ?_
      · simp only [List.mem_cons, List.not_mem_nil, or_false, not_or]
        exact ⟨fun e => hp (e ▸ hft), fun e => hp (e ▸ hfa)⟩
      · simp only [List.mem_cons, List.not_mem_nil, or_false, not_or]
        exact ⟨fun e => hb (e ▸ hft), fun e => hb (e ▸ hfa)⟩
  · show (f.a :: g3 :: tsFp (f.ts ++ [(⟨p, b, G, z⟩ : Tb)])).Nodup
    rw [tsFp_append, tsFp_cons]
    show (f.a :: g3 :: (tsFp f.ts ++ [p, b])).Nodup
    rw [List.nodup_cons, List.nodup_cons, List.nodup_append]
    refine ⟨?_, ?_, n3, ?_, ?_⟩
    · simp only [List.mem_cons, List.mem_append, List.not_mem_nil, or_false, not_or]
      exact ⟨fun e => ga e.symm, n1.2, fun e => hp (e ▸ hfa), fun e => hb (e ▸ hfa)⟩
    · simp only [List.mem_cons, List.mem_append, List.not_mem_nil, or_false, not_or]
      exact ⟨gt, gp.1, gp.2⟩
    · simp [hpb]
    · intro a ha c hc
      simp only [List.mem_cons, List.not_mem_nil, or_false] at hc
      rcases hc with rfl | rfl
      · rintro rfl; exact hp (hfu _ ha)
      · rintro rfl; exact hb (hfu _ ha)
  · show (keysOf (tsEs (f.ts ++ [(⟨p, b, G, z⟩ : Tb)]))).Nodup
    rw [tsEs_append, tsEs_one]
    exact hk
  · show 0 < (f.ts ++ [(⟨p, b, G, z⟩ : Tb)]).length
    rw [List.length_append]; exact Nat.lt_of_lt_of_le h.pos (Nat.le_add_right _ _)
  · intro j hj
    change j ∈ f.a :: g3 :: tsFp (f.ts ++ [(⟨p, b, G, z⟩ : Tb)]) at hj
    rw [tsFp_append, tsFp_cons] at hj
    simp only [List.mem_cons, List.mem_append] at hj
    rcases hj with rfl | rfl | hj | rfl | rfl | hj
    · exact .inl hfa
    · exact hgo.elim (fun e => .inl (e ▸ hft)) (fun e => .inr (.inl e))
    · exact .inl (hfu _ hj)
    · exact .inr (.inr (.inl rfl))
    · exact .inr (.inr (.inr rfl))
    · simp [tsFp] at hj
/-- A leaf with one key more. -/
def Added (w w' : World) (B x : Nat) (f : Lf) (k : ByteArray) (v : Int) : Prop :=
  ∃ f', Grew w w' B x f f' ∧ f'.es.Perm (f.es ++ [(k, v)]) ∧ (f.ts.length = 1 → f.es.length < 112 → f'.ts.length = 1) ∧ (Ful f → Ful f')
set_option maxRecDepth 100000 in
set_option maxHeartbeats 4000000 in
theorem add_leaf (B x : Nat) (f : Lf) (k : ByteArray) (v : Int) (w : World) (hL : Leaf w B x f) (hx : x < 18446744073709551616) (hks : k.size ≤ maxLen) (hk : k ∉ keysOf f.es) (hn : f.ts.length ≤ 10000000) (hB : B ≤ w.heap.size) :
    Calls Tryz.prog 140 #[ptr f.a, .int .u64 x, .string k, .int .u64 v] w fun e w' => e = .returned (.tuple #[]) ∧ Added w w' B x f k v := by
  have HL : Hid (Leaf w B x f) := hL
  have hc := hL.tabs
  have HK : Hid (k ∉ keysOf f.es) := hk
  have HKS : Hid (k.size ≤ maxLen) := hks
  have HX : Hid (x < 18446744073709551616) := hx
  have HBs : Hid (B ≤ w.heap.size) := hB
  generalize hm : f.ts.length = m at hc hn
  have HM : Hid (f.ts.length = m) := hm
  clear hL hm hk hks hx hB
  go_enter Tryz.func140, Tryz.ntmps140
  go_wp2
  go_loopg [9, 16] m (fun q tv iv wr => ∃ i : Nat, i + q = m ∧ iv = .int .i64 i ∧ Hid (∀ t ∈ f.ts.take i, 112 ≤ t.es.length) ∧ Hid (Below w.heap.size w wr))
  case atStart => exact ⟨0, by omega, rfl, (by simp : ∀ t ∈ f.ts.take 0, 112 ≤ t.es.length), Below.refl _ _⟩
  case round =>
    obtain ⟨i, hi, rfl, HFu, HB⟩ := hrel
    by_cases h8 : (i : Int) < m
    · obtain ⟨t, ht, htm⟩ := get_of_lt (l := f.ts) (i := i) (by have := HM.out; omega)
      have hcc := (HL.out.keep HB.out).at ht
      have HTab : Hid (Tab wr B t.p t.b x t.G t.z) := (HL.out.keep HB.out).tab t htm
      have HIn := not_in_tab HK.out htm
      by_cases hfull : 112 ≤ (ents t.z).length
      · have hP := Put_full _ _ _ _ _ _ k v _ HTab.out HKS.out HIn hfull
        have HFu1 : Hid (∀ t ∈ f.ts.take (i + 1), 112 ≤ t.es.length) := by
          show ∀ t ∈ f.ts.take (i + 1), 112 ≤ t.es.length
          rw [take_more ht]
          intro u hu
          rcases List.mem_append.1 hu with hu | hu
          · exact HFu.out u hu
          · rw [List.mem_singleton.1 hu]; exact hfull
        clear ht htm HIn hfull
        go_wp2_with fail
        refine hP.mono ?_
        rintro e w1 ⟨rfl, hb1⟩
        have HB1 := step_below HB hb1
        clear hb1 hP
        go_wp2
        go_roundg (gk - 1)
        case measure => omega
        case rel => exact ⟨i + 1, by omega, by go_num, HFu1, HB1⟩
      · have hP := Put_new _ _ _ _ _ _ k v _ HTab.out HKS.out HIn (by omega)
        have HG : Hid (f.ts = f.ts.take i ++ t :: f.ts.drop (i + 1)) := get_parts ht
        clear ht htm HIn hfull
        go_wp2_with fail
        refine hP.mono ?_
        rintro e w1 ⟨rfl, hm1, b1, G1, z1, hT1, hb1, hp1⟩
        have HR : Hid (Added w w1 B x f k v) := by
          have hpm : (tsEs (f.ts.take i ++ ⟨t.p, b1, G1, z1⟩ :: f.ts.drop (i + 1))).Perm (f.es ++ [(k, v)]) := by
            have := mid_perm (pre := f.ts.take i) (post := f.ts.drop (i + 1)) (t := t) (t' := ⟨t.p, b1, G1, z1⟩) hp1
            rw [← HG.out] at this
            exact this
          obtain ⟨k1, k2, k3⟩ := (HL.out.keep HB.out).turn HG.out (Stay.of_moves hm1) hT1 hb1 (keys_nodup_add HL.out.key HK.out hpm)
          exact ⟨_, (⟨k1, k3, k2, rfl, rfl, rfl⟩ : Grew wr w1 B x f _).first HB.out, hpm, fun h _ => by
            have := congrArg List.length HG.out
            rw [h] at this
            simp at this ⊢
            omega, fun h => .inr fun u hu => by
              rcases List.mem_append.1 hu with hu | hu
              · have := HFu.out u hu; omega
              · rcases List.mem_cons.1 hu with rfl | hu
                · have := hp1.length_eq
                  rw [List.length_append] at this
                  show 0 < (ents z1).length
                  simp at this
                  omega
                · rcases h with h | h
                  · have h9 := congrArg List.length HG.out
                    rw [h] at h9
                    have h10 : 0 < (f.ts.drop (i + 1)).length := List.length_pos_of_mem hu
                    simp at h9 h10
                    omega
                  · exact h u (by rw [HG.out]; simp [hu])⟩
        clear hm1 hT1 hb1 hp1 hP
        go_wp2
        refine bodyPost_ret (results_none rfl _ _ _) rfl ?_
        exact ⟨rfl, HR.out⟩
    · have HFu2 : Hid (∀ t ∈ f.ts, 112 ≤ t.es.length) := by
        have := HFu.out
        rw [List.take_of_length_le (by have := HM.out; omega)] at this
        exact this
      have hNew := New_tab x wr HX.out
      go_wp2_with fail
      refine hNew.mono ?_
      rintro e w1 ⟨hb1, p, b, rfl, hT1, -⟩
      have HB1 := step_below HB hb1
      have HTl : Hid (wr.heap.size ≤ p ∧ wr.heap.size ≤ b) := ⟨hT1.low, hT1.lowb⟩
      have hP := Put_new _ _ _ _ _ _ k v _ hT1 HKS.out (by rw [ents_news0]; simp) (by rw [ents_news0]; decide)
      have HT1 : Hid (Tab w1 wr.heap.size p b x 1 (news0 1)) := hT1
      have HS1 : Hid (wr.heap.size ≤ w1.heap.size) := hb1.size
      clear hb1 hT1 hNew
      go_wp2_with fail
      refine hP.mono ?_
      rintro e w2 ⟨rfl, hm2, b2, G2, z2, hT2, hb2, hp2⟩
      rw [ents_news0, List.nil_append] at hp2
      have HP2 : Hid ((ents z2).Perm [(k, v)]) := hp2
      have HBw : Hid (w.heap.size ≤ wr.heap.size) := HB.out.size
      have HT2 : Hid (Tab w2 B p b2 x G2 z2) := hT2.lower (Nat.le_trans HBs.out HBw.out)
      have HTl2 : Hid (wr.heap.size ≤ p ∧ wr.heap.size ≤ b2) := ⟨HTl.out.1, by have := HTl.out.2; have := HS1.out; rcases hb2 with rfl | h <;> omega⟩
      have HB2 : Hid (Below w.heap.size w w2) := HB1.out.trans ((Stay.of_moves hm2).below (by intro i hi; simp at hi; have := HTl.out; have := HBw.out; rcases hi with rfl | rfl <;> omega) HB1.out.size)
      clear hm2 hT2 hb2 hp2 hP HT1
      obtain ⟨w3, hw3⟩ : ∃ w3, w2.alloc (.cells #[ptr p] 117) = w3 := ⟨_, rfl⟩
      obtain ⟨g, hg⟩ : ∃ g, w2.heap.size = g := ⟨_, rfl⟩
      have HB3' : Hid (Below w2.heap.size w2 w3) := by show Below _ _ _; rw [← hw3]; exact alloc_below w2 _
      have hc3 : w3.cell? ⟨g, 0, none⟩ = some (ptr p) := by rw [← hw3, ← hg]; simp only [World.cell?, heap_alloc_new]; rfl
      have HB3 := step_below HB2 HB3'.out
      have HT3 : Hid (Tab w3 B p b2 x G2 z2) := HT2.out.keep HB3'.out
      have HL3 : Hid (Leaf w3 B x f) := HL.out.keep HB3.out
      have hL3 := HL3.out.tabs
      rw [HM.out] at hL3
      have hL2 := (HL.out.keep HB2.out).tabs
      rw [HM.out] at hL2
      have HO3 : Hid (OwnP w3 B 117 (some ⟨f.tb, 0, none⟩) m f.cap (f.ts.map (·.p))) := by have := HL3.out.row; rw [HM.out] at this; exact this
      have HNm : Hid (m ≤ 10000000) := hn
      clear HB3' HTl HFu HT2 hc
      go_wp2_with (at_builtin; refine append_r rfl (.tmp 36) (.tmp 38) rfl eltT B rfl HO3.out [ptr p] rfl rfl (by intro j u hu; cases j with | zero => (rw [add_flat, hc3]; exact hu) | succ j => simp at hu) (by simp [Value.oneCell']) (by decide) (by have := HNm.out; omega) (by have := HNm.out; unfold maxLen; omega) (Nat.le_trans HBs.out HB3.out.size) ?_; intro a4 n4 c4 w4 hn4 HO4 HG4 HW4; have hc4 : w4.cell? ⟨f.a, 1, none⟩ = some (.slice (some ⟨f.tb, 0, none⟩) m f.cap) := (by rw [World.cell?_of_block (HG4.out.block f.a HL3.out.lt (by intro e; have h := HL3.out.nod; unfold Lf.fp at h; simp at e; simp [e] at h))]; exact hL3); have hf4 : w4.frozen? ⟨f.a, 1, none⟩ = false := (by have := HG4.out.block f.a HL3.out.lt (by intro e; have h := HL3.out.nod; unfold Lf.fp at h; simp at e; simp [e] at h); rw [HL3.out.blk] at this; simp [World.frozen?, this]))
      go_end0
      refine ⟨rfl, ?_⟩
      have hO4 := HO4.out
      have hG4 := HG4.out
      have hW4 := HW4.out
      obtain ⟨g4, rfl, -⟩ := OwnR.at hO4 (by omega)
      have hlt := (HL.out.keep HB.out).fplt
      have hgo : g4 = f.tb ∨ w3.heap.size ≤ g4 := by
        rcases hW4 with h | h
        · simp at h; exact .inl h
        · simp at h; exact .inr (by omega)
      have hpm : (f.es ++ ents z2).Perm (f.es ++ [(k, v)]) := List.Perm.append_left _ HP2.out
      have hp : p ∉ f.fp := fun h => by have := (hlt p h).2; have := HTl2.out.1; omega
      have hb : b2 ∉ f.fp := fun h => by have := (hlt b2 h).2; have := HTl2.out.2; omega
      rw [hn4, ← HM.out] at hO4
      rw [← HM.out]
      obtain ⟨k1, k2⟩ := HL3.out.more hG4 (by unfold OwnP; rw [pcells_append]; exact hO4) hgo HT3.out hp hb (keys_nodup_add HL.out.key HK.out hpm)
      refine ⟨_, ⟨k1, ?_, ?_, rfl, rfl, rfl⟩, ?_, ?_, ?_⟩
      · refine (Stay.of_below HB3.out f.fp).trans (M' := [f.tb, f.a]) (((Stay.grown hG4 (M := [f.tb, f.a]) (fun g e => by simp at e; simp [e]))).trans Stay.set (fun i hi => .inl (by simp at hi; simp [hi]))) (fun i hi => .inl (by simp at hi; rcases hi with rfl | rfl <;> simp [Lf.fp]))
      · intro j hj
        have h1 := HTl2.out
        have h2 := HBw.out
        have h3 := HB3.out.size
        rcases k2 j hj with h | h | rfl | rfl
        · exact .inl h
        · exact .inr (by omega)
        · exact .inr (by omega)
        · exact .inr (by omega)
      · show (tsEs (f.ts ++ [(⟨p, b2, G2, z2⟩ : Tb)])).Perm _
        rw [tsEs_append, tsEs_one]
        exact hpm
      · intro h1 h2
        obtain ⟨t, ht⟩ := List.length_eq_one_iff.1 h1
        have h3 := HFu2.out t (by simp [ht])
        have h4 : f.es = t.es := by unfold Lf.es; rw [ht, tsEs_one]
        rw [h4] at h2
        omega
      · intro _
        refine .inr fun u hu => ?_
        rcases List.mem_append.1 hu with hu | hu
        · have := HFu2.out u hu; omega
        · cases List.mem_singleton.1 hu
          have := HP2.out.length_eq
          show 0 < (ents z2).length
          simp at this
          omega
/-- One table less. -/
theorem Leaf.drop {w w3 : World} {B x : Nat} {f : Lf} {pre post : List Tb} {t : Tb} {n' c' : Nat} (h : Leaf w B x f) (e : f.ts = pre ++ t :: post) (hg : w.grownBy w3 (some f.tb)) (hO : OwnP w3 B 117 (some ⟨f.tb, 0, none⟩) n' c' ((pre ++ post).map (·.p))) (hpos : 0 < (pre ++ post).length) :
    Leaf (w3.setCell ⟨f.a, 1, none⟩ (.slice (some ⟨f.tb, 0, none⟩) n' c')) B x { f with cap := c', ts := pre ++ post } ∧ (∀ j ∈ ({ f with cap := c', ts := pre ++ post } : Lf).fp, j ∈ f.fp) := by
  have hlen : (pre ++ post).length = n' := by have := OwnP.len hO; rw [List.length_map] at this; exact this
  have hsub : ((tsFp (pre ++ post)).Sublist (tsFp f.ts)) := by
    rw [e, tsFp_append, tsFp_append, tsFp_cons]
    exact List.Sublist.append_left ((List.sublist_cons_self _ _).trans (List.sublist_cons_self _ _)) _
  have hes : (tsEs (pre ++ post)).Sublist f.es := by
    unfold Lf.es
    rw [e, tsEs_append, tsEs_append, tsEs_cons]
    exact List.Sublist.append_left (List.sublist_append_right _ _) _
  have hn := h.nod
  unfold Lf.fp at hn
  rw [List.nodup_cons, List.nodup_cons] at hn
  obtain ⟨n1, n2, n3⟩ := hn
  rw [List.mem_cons, not_or] at n1
  have hS : Stay w w3 [f.tb] := Stay.grown hg (fun g e => by cases e; simp)
  have hS2 : Stay w (w3.setCell ⟨f.a, 1, none⟩ (.slice (some ⟨f.tb, 0, none⟩) n' c')) [f.tb, f.a] :=
    (hS.mono (by simp)).trans Stay.set (fun i hi => .inl (by simp at hi; simp [hi]))
  have hblk3 : w3.heap[f.a]? = some (.cells #[.int .i64 (f.l : Nat), .slice (some ⟨f.tb, 0, none⟩) f.ts.length f.cap] 160 (0, 0)) := by
    rw [hS.block f.a h.lt (by simpa using n1.1)]; exact h.blk
  refine ⟨⟨?_, ?_, ?_, h.low, ?_, ?_, hpos⟩, ?_⟩
  · show (w3.setCell ⟨f.a, 1, none⟩ _).heap[f.a]? = some (.cells #[.int .i64 (f.l : Nat), .slice (some ⟨f.tb, 0, none⟩) (pre ++ post).length c'] 160 (0, 0))
    rw [heap_set hblk3, hlen]
    rfl
  · show OwnP _ B 117 (some ⟨f.tb, 0, none⟩) (pre ++ post).length c' ((pre ++ post).map (·.p))
    rw [hlen]
    exact OwnR.stay hO (Stay.set (q := f.a)) (fun k hk => by cases hk; simpa using fun e => n1.1 e.symm)
  · intro u hu
    have hu' : u ∈ f.ts := by rw [e]; rcases List.mem_append.1 hu with h | h <;> simp [h]
    have hm := mem_tsFp hu'
    refine (h.tab u hu').stay hS2 ?_ ?_
    · simp only [List.mem_cons, List.not_mem_nil, or_false, not_or]
      exact ⟨fun e => n2 (e ▸ hm.1), fun e => n1.2 (e ▸ hm.1)⟩
    · simp only [List.mem_cons, List.not_mem_nil, or_false, not_or]
      exact ⟨fun e => n2 (e ▸ hm.2), fun e => n1.2 (e ▸ hm.2)⟩
  · exact ((hsub.cons_cons f.tb).cons_cons f.a).nodup h.nod
  · exact (hes.map (·.1)).nodup h.key
  · intro j hj
    exact ((hsub.cons_cons f.tb).cons_cons f.a).mem hj
/-- A leaf with one key less. -/
def Removed (w w' : World) (B x : Nat) (f : Lf) (k : ByteArray) : Prop :=
  ∃ f', Grew w w' B x f f' ∧ (∃ u, f.es.Perm ((k, u) :: f'.es)) ∧ (f.ts.length = 1 → f'.ts.length = 1) ∧ (Ful f → Ful f')
end Go.Proofs.YtnajhjmdpaeelaaGreatDoor.Zs.Dk
