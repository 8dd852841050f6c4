/- Texts that the others stand on. -/
import Derived.Test.YtnajhjmdpaeelaaGreatDoorG5
import Derived.Laws.CopyOwn
import Derived.Lib.Overlaps
import Derived.Lib.SliceRun
import Derived.Lib.AppendZerosOnto
import Derived.Deep.RegionLaw
namespace Go.Proofs.YtnajhjmdpaeelaaGreatDoor.Dk
/-- A part: its own depth, its bits. -/
abbrev Pt := Nat × Nat
/-- Does a hash belong to a part (own depth, bits)? -/
def isIn (s : Pt) (h : Nat) : Bool := decide (h % 2 ^ s.1 = s.2)
theorem isIn_iff {s : Pt} {h : Nat} : isIn s h = true ↔ h % 2 ^ s.1 = s.2 := decide_eq_true_iff
theorem isIn_no {s : Pt} {h : Nat} : isIn s h = false ↔ h % 2 ^ s.1 ≠ s.2 := decide_eq_false_iff_not
def Apart (s t : Pt) : Prop := ∀ h, isIn s h = true → isIn t h = false
theorem Apart.symm {s t : Pt} (h : Apart s t) : Apart t s := fun k hk => by
  cases e : isIn s k with
  | false => rfl
  | true => have := h k e; rw [hk] at this; cases this
theorem isIn_zero {l q h : Nat} (hq : q < 2 ^ l) : isIn (l + 1, q) h = true ↔ isIn (l, q) h = true ∧ h / 2 ^ l % 2 = 0 := by
  rw [isIn_iff, isIn_iff]
  show h % 2 ^ (l + 1) = q ↔ h % 2 ^ l = q ∧ _
  rw [mod_succ]
  have h1 : h % 2 ^ l < 2 ^ l := Nat.mod_lt _ (Nat.pow_pos (by decide))
  rcases Nat.mod_two_eq_zero_or_one (h / 2 ^ l) with e | e <;> rw [e] <;> simp <;> omega
theorem isIn_one {l q h : Nat} : isIn (l + 1, q + 2 ^ l) h = true ↔ isIn (l, q) h = true ∧ h / 2 ^ l % 2 = 1 := by
  rw [isIn_iff, isIn_iff]
  show h % 2 ^ (l + 1) = q + 2 ^ l ↔ h % 2 ^ l = q ∧ _
  rw [mod_succ]
  have h1 : h % 2 ^ l < 2 ^ l := Nat.mod_lt _ (Nat.pow_pos (by decide))
  rcases Nat.mod_two_eq_zero_or_one (h / 2 ^ l) with e | e <;> rw [e] <;> simp <;> omega
/-- The parts of a directory of depth g: each hash belongs to one. -/
structure Shp (g : Nat) (sh : List Pt) : Prop where
  lt : ∀ s ∈ sh, s.2 < 2 ^ s.1 ∧ s.1 ≤ g
  le : g ≤ 16
  deep : ∃ s ∈ sh, s.1 = g
  cov : ∀ h, ∃ s ∈ sh, isIn s h = true
  dis : sh.Pairwise Apart
theorem Shp.new : Shp 0 [(0, 0)] := by
  refine ⟨?_, by decide, ⟨_, List.mem_singleton.2 rfl, rfl⟩, fun h => ⟨_, List.mem_singleton.2 rfl, ?_⟩, by simp⟩
  · intro s hs
    cases List.mem_singleton.1 hs
    simp
  · rw [isIn_iff]; simp [Nat.mod_one]
/-- The part of a hash, and that no other is. -/
theorem Shp.parts {g : Nat} {sh : List Pt} (hS : Shp g sh) (h : Nat) : ∃ a s c, sh = a ++ s :: c ∧ isIn s h = true ∧ (∀ t ∈ a, isIn t h = false) ∧ (∀ t ∈ c, isIn t h = false) := by
  obtain ⟨s, hs, hi⟩ := hS.cov h
  obtain ⟨a, c, rfl⟩ := List.append_of_mem hs
  have hd := hS.dis
  rw [List.pairwise_append, List.pairwise_cons] at hd
  refine ⟨a, s, c, rfl, hi, fun t ht => ?_, fun t ht => hd.2.1.1 t ht h hi⟩
  exact (hd.2.2 t ht s (by simp)).symm h hi
theorem Shp.split {g : Nat} {a c : List Pt} {l q : Nat} (hS : Shp g (a ++ (l, q) :: c)) (hl : l < 16) : Shp (max g (l + 1)) (a ++ (l + 1, q) :: (c ++ [(l + 1, q + 2 ^ l)])) := by
  have hq := hS.lt (l, q) (by simp)
  have hp : 2 ^ (l + 1) = 2 * 2 ^ l := by rw [Nat.pow_succ, Nat.mul_comm]
  refine ⟨?_, ?_, ?_, ?_, ?_⟩
  · intro s hs
    simp only [List.mem_append, List.mem_cons, List.not_mem_nil, or_false] at hs
    rcases hs with hs | rfl | hs | rfl
    · have := hS.lt s (by simp [hs]); omega
    · simp only [hp]; simp only at hq; omega
    · have := hS.lt s (by simp [hs]); omega
    · simp only [hp]; simp only at hq; omega
  · have := hS.le; omega
  · by_cases e : l + 1 ≤ g
    · obtain ⟨s, hs, he⟩ := hS.deep
      simp only [List.mem_append, List.mem_cons] at hs
      rcases hs with hs | rfl | hs
      · exact ⟨s, by simp [hs], by omega⟩
      · simp only at he; omega
      · exact ⟨s, by simp [hs], by omega⟩
    · exact ⟨(l + 1, q), by simp, by simp only; omega⟩
  · intro h
    obtain ⟨s, hs, hi⟩ := hS.cov h
    simp only [List.mem_append, List.mem_cons] at hs
    rcases hs with hs | rfl | hs
    · exact ⟨s, by simp [hs], hi⟩
    · rcases Nat.mod_two_eq_zero_or_one (h / 2 ^ l) with e | e
      · exact ⟨(l + 1, q), by simp, (isIn_zero hq.1).2 ⟨hi, e⟩⟩
      · exact ⟨(l + 1, q + 2 ^ l), by simp, isIn_one.2 ⟨hi, e⟩⟩
    · exact ⟨s, by simp [hs], hi⟩
  · have hd := hS.dis
    rw [List.pairwise_append, List.pairwise_cons] at hd
    obtain ⟨h1, ⟨h2, h3⟩, h4⟩ := hd
    have z0 : ∀ t, Apart (l, q) t → Apart (l + 1, q) t := fun t ht h hh => ht h ((isIn_zero hq.1).1 hh).1
    have z1 : ∀ t, Apart (l, q) t → Apart (l + 1, q + 2 ^ l) t := fun t ht h hh => ht h (isIn_one.1 hh).1
    have z2 : Apart (l + 1, q) (l + 1, q + 2 ^ l) := by
      intro h hh
      have h0 := ((isIn_zero hq.1).1 hh).2
      cases e : isIn (l + 1, q + 2 ^ l) h with
      | false => rfl
      | true => have h1 := (isIn_one.1 e).2; rw [h0] at h1; cases h1
    rw [List.pairwise_append, List.pairwise_cons, List.pairwise_append]
    refine ⟨h1, ⟨?_, h3, by simp, ?_⟩, ?_⟩
    · intro t ht
      simp only [List.mem_append, List.mem_cons, List.not_mem_nil, or_false] at ht
      rcases ht with ht | rfl
      · exact z0 t (h2 t ht)
      · exact z2
    · intro t ht s hs
      cases List.mem_singleton.1 hs
      exact (z1 t (h2 t ht)).symm
    · intro t ht s hs
      simp only [List.mem_append, List.mem_cons, List.not_mem_nil, or_false] at hs
      rcases hs with rfl | hs | rfl
      · exact (z0 t (h4 t ht (l, q) (by simp)).symm).symm
      · exact h4 t ht s (by simp [hs])
      · exact (z1 t (h4 t ht (l, q) (by simp)).symm).symm
/-- Two that a hash belongs to are one. -/
theorem Shp.one {g : Nat} {sh : List Pt} (hS : Shp g sh) {i j : Nat} (hi : i < sh.length) (hj : j < sh.length) {h : Nat} (h1 : isIn sh[i] h = true) (h2 : isIn sh[j] h = true) : i = j := by
  rcases Nat.lt_trichotomy i j with h3 | h3 | h3
  · have := List.pairwise_iff_getElem.1 hS.dis i j hi hj h3 h h1
    rw [h2] at this; cases this
  · exact h3
  · have := List.pairwise_iff_getElem.1 hS.dis j i hj hi h3 h h2
    rw [h1] at this; cases this
/-- A hash and its lowest bits belong to the same. -/
theorem isIn_low {s : Pt} {g : Nat} (hs : s.1 ≤ g) (h : Nat) : isIn s (h % 2 ^ g) = isIn s h := by
  unfold isIn
  have : h % 2 ^ g % 2 ^ s.1 = h % 2 ^ s.1 := Nat.mod_mod_of_dvd _ (Nat.pow_dvd_pow 2 hs)
  rw [this]
theorem isIn_self {s : Pt} (hs : s.2 < 2 ^ s.1) : isIn s s.2 = true := isIn_iff.2 (Nat.mod_eq_of_lt hs)
end Go.Proofs.YtnajhjmdpaeelaaGreatDoor.Dk
namespace Go.Proofs.YtnajhjmdpaeelaaGreatDoor.Dk
open Go.RowKit Go.PlainAid
/-- All is as it was, but for the blocks of M and what is new. -/
structure Stay (w w' : World) (M : List Nat) : Prop where
  os : w'.os = w.os
  tape : w'.tape = w.tape
  output : w'.output = w.output
  size : w.heap.size ≤ w'.heap.size
  block : ∀ k, k < w.heap.size → k ∉ M → w'.heap[k]? = w.heap[k]?
theorem Stay.of_below {w w' : World} (h : Below w.heap.size w w') (M : List Nat) : Stay w w' M := ⟨h.os, h.tape, h.output, h.size, fun k hk _ => h.block k hk⟩
theorem Stay.of_moves {w w' : World} {p b : Nat} (h : Moves w w' p b) : Stay w w' [p, b] :=
  ⟨h.os, h.tape, h.output, h.size, fun k hk hn => h.block k hk (fun e => hn (by simp [e])) (fun e => hn (by simp [e]))⟩
theorem Stay.trans {w w1 w2 : World} {M M' : List Nat} (h : Stay w w1 M) (k : Stay w1 w2 M') (hM : ∀ i ∈ M', i ∈ M ∨ w.heap.size ≤ i) : Stay w w2 M :=
  ⟨k.os.trans h.os, k.tape.trans h.tape, k.output.trans h.output, Nat.le_trans h.size k.size, fun i hi hn =>
    (k.block i (Nat.lt_of_lt_of_le hi h.size) (fun hm => (hM i hm).elim hn (fun h1 => by omega))).trans (h.block i hi hn)⟩
theorem Stay.mono {w w' : World} {M M' : List Nat} (h : Stay w w' M) (hM : ∀ i ∈ M, i ∈ M') : Stay w w' M' :=
  ⟨h.os, h.tape, h.output, h.size, fun k hk hn => h.block k hk (fun hm => hn (hM k hm))⟩
theorem Stay.below {w w' : World} {M : List Nat} {B : Nat} (h : Stay w w' M) (hM : ∀ i ∈ M, B ≤ i) (hB : B ≤ w.heap.size) : Below B w w' :=
  ⟨h.os, h.tape, h.output, h.size, fun k hk => h.block k (Nat.lt_of_lt_of_le hk hB) (fun hm => by have := hM k hm; omega)⟩
theorem Stay.set {w : World} {q o : Nat} {v : Value} : Stay w (w.setCell ⟨q, o, none⟩ v) [q] :=
  ⟨rfl, rfl, rfl, by simp [World.setCell], fun k _ h1 => Below.heap_setCell _ _ _ _ (by simpa using h1)⟩
theorem Stay.grown {w w2 : World} {row : Option Nat} {M : List Nat} (h : w.grownBy w2 row) (hr : ∀ g, row = some g → g ∈ M) : Stay w w2 M :=
  ⟨h.os, h.tape, h.output, h.size, fun k hk hn => h.block k hk (fun e => hn (hr k e.symm))⟩
theorem Top.stay {w w' : World} {p b x G : Nat} {M : List Nat} (h : Top w p b x G) (hs : Stay w w' M) (hp : p ∉ M) : Top w' p b x G := h.kept (hs.block p h.lt hp)
theorem Tab.stay {w w' : World} {B p b x G : Nat} {z : List Cl} {M : List Nat} (h : Tab w B p b x G z) (hs : Stay w w' M) (hp : p ∉ M) (hb : b ∉ M) : Tab w' B p b x G z :=
  ⟨h.top.stay hs hp, h.row.kept (hs.block b h.row.lt hb), h.low, h.lowb, h.inv, h.seed, h.siz⟩
theorem Tab.lower {w : World} {B C p b x G : Nat} {z : List Cl} (h : Tab w B p b x G z) (hC : C ≤ B) : Tab w C p b x G z :=
  ⟨h.top, h.row, Nat.le_trans hC h.low, Nat.le_trans hC h.lowb, h.inv, h.seed, h.siz⟩
theorem OwnR.stay {w w' : World} {B : Nat} {e : TypeId} {s : Nat} {a : Option Addr} {n cap : Nat} {cs : List Value} {M : List Nat} (h : OwnR w B e s a n cap cs) (hs : Stay w w' M) (hd : ∀ k, a.map (·.block) = some k → k ∉ M) : OwnR w' B e s a n cap cs :=
  h.kept fun k hk => hs.block k (h.lt hk).2.1 (hd k hk)
/-- Rows of pointers. -/
def pcells (ls : List Nat) : List Value := ls.map ptr
abbrev OwnP (w : World) (B : Nat) (e : TypeId) (a : Option Addr) (n cap : Nat) (ls : List Nat) : Prop := OwnR w B e 1 a n cap (pcells ls)
theorem Tryz.infoT : (Tryz.prog.info? 110).map (fun i => (i.zero, i.size, i.bytes)) = some (some (.pointer none), 1, 8) := by kernel_rfl
theorem Tryz.infoL : (Tryz.prog.info? 108).map (fun i => (i.zero, i.size, i.bytes)) = some (some (.pointer none), 1, 8) := by kernel_rfl
theorem eltT : Elt 151 110 1 8 := elt_of Tryz.underlying151 Tryz.infoT rfl (by decide)
theorem eltL : Elt 112 108 1 8 := elt_of Tryz.underlying112 Tryz.infoL rfl (by decide)
theorem pcells_append (l r : List Nat) : pcells (l ++ r) = pcells l ++ pcells r := List.map_append ..
theorem pcells_one {ls : List Nat} : ∀ u ∈ pcells ls, u.oneCell' = true := by
  intro u hu
  obtain ⟨i, -, rfl⟩ := List.mem_map.1 hu
  rfl
theorem OwnP.len {w : World} {B : Nat} {e : TypeId} {a : Option Addr} {n cap : Nat} {ls : List Nat} (h : OwnP w B e a n cap ls) : ls.length = n := by have := OwnR.len h; simpa [pcells] using this
theorem OwnP.cell {w : World} {B : Nat} {e : TypeId} {g n cap : Nat} {ls : List Nat} (h : OwnP w B e (some ⟨g, 0, none⟩) n cap ls) {j p : Nat} (hj : ls[j]? = some p) : w.cell? ⟨g, j, none⟩ = some (ptr p) := by
  have hl := OwnP.len h
  have hlt : j < ls.length := by
    rcases Nat.lt_or_ge j ls.length with h1 | h1
    · exact h1
    · rw [List.getElem?_eq_none h1] at hj; cases hj
  obtain ⟨g', h1, h2⟩ := OwnR.at h (by omega)
  cases h1
  exact h2 _ _ (by rw [pcells, List.getElem?_map, hj]; rfl)
/-- A table: where it lies, its slots. -/
structure Tb where
  p : Nat
  b : Nat
  G : Nat
  z : List Cl
def Tb.es (t : Tb) : List En := ents t.z
def Tb.fp (t : Tb) : List Nat := [t.p, t.b]
def tsEs (ts : List Tb) : List En := ts.flatMap Tb.es
def tsFp (ts : List Tb) : List Nat := ts.flatMap Tb.fp
/-- A leaf: its own depth, its bits; where it lies, where the row of its tables; its tables. -/
structure Lf where
  l : Nat
  q : Nat
  a : Nat
  tb : Nat
  cap : Nat
  ts : List Tb
def Lf.es (f : Lf) : List En := tsEs f.ts
def Lf.fp (f : Lf) : List Nat := f.a :: f.tb :: tsFp f.ts
def Lf.pt (f : Lf) : Pt := (f.l, f.q)
theorem tsEs_append (a b : List Tb) : tsEs (a ++ b) = tsEs a ++ tsEs b := List.flatMap_append ..
theorem tsEs_cons (t : Tb) (b : List Tb) : tsEs (t :: b) = t.es ++ tsEs b := List.flatMap_cons ..
theorem tsEs_one (t : Tb) : tsEs [t] = t.es := by rw [tsEs_cons]; exact List.append_nil _
theorem tsFp_append (a b : List Tb) : tsFp (a ++ b) = tsFp a ++ tsFp b := List.flatMap_append ..
theorem tsFp_cons (t : Tb) (b : List Tb) : tsFp (t :: b) = t.p :: t.b :: tsFp b := by rw [tsFp, List.flatMap_cons]; rfl
theorem mem_tsFp {ts : List Tb} {t : Tb} (h : t ∈ ts) : t.p ∈ tsFp ts ∧ t.b ∈ tsFp ts :=
  ⟨List.mem_flatMap.2 ⟨t, h, by simp [Tb.fp]⟩, List.mem_flatMap.2 ⟨t, h, by simp [Tb.fp]⟩⟩
/-- A leaf in memory. -/
structure Leaf (w : World) (B x : Nat) (f : Lf) : Prop where
  blk : w.heap[f.a]? = some (.cells #[.int .i64 (f.l : Nat), .slice (some ⟨f.tb, 0, none⟩) f.ts.length f.cap] 153 (0, 0))
  row : OwnP w B 110 (some ⟨f.tb, 0, none⟩) f.ts.length f.cap (f.ts.map (·.p))
  tab : ∀ t ∈ f.ts, Tab w B t.p t.b x t.G t.z
  low : B ≤ f.a
  nod : f.fp.Nodup
  key : (keysOf f.es).Nodup
  pos : 0 < f.ts.length
theorem Leaf.lt {w : World} {B x : Nat} {f : Lf} (h : Leaf w B x f) : f.a < w.heap.size := (Array.getElem?_eq_some_iff.1 h.blk).1
theorem Leaf.fplt {w : World} {B x : Nat} {f : Lf} (h : Leaf w B x f) : ∀ k ∈ f.fp, B ≤ k ∧ k < w.heap.size := by
  intro k hk
  rcases List.mem_cons.1 hk with rfl | hk
  · exact ⟨h.low, h.lt⟩
  rcases List.mem_cons.1 hk with rfl | hk
  · have := OwnR.lt h.row (k := f.tb) rfl
    exact ⟨this.1, this.2.1⟩
  · obtain ⟨t, ht, hk⟩ := List.mem_flatMap.1 hk
    have hT := h.tab t ht
    simp only [Tb.fp, List.mem_cons, List.not_mem_nil, or_false] at hk
    rcases hk with rfl | rfl
    · exact ⟨hT.low, hT.top.lt⟩
    · exact ⟨hT.lowb, hT.row.lt⟩
theorem Leaf.stay {w w' : World} {B x : Nat} {f : Lf} {M : List Nat} (h : Leaf w B x f) (hs : Stay w w' M) (hd : ∀ k ∈ f.fp, k ∉ M) : Leaf w' B x f := by
  refine ⟨by rw [hs.block f.a h.lt (hd _ (by simp [Lf.fp]))]; exact h.blk, OwnR.stay h.row hs (fun k hk => hd k (by cases hk; simp [Lf.fp])), fun t ht => (h.tab t ht).stay hs (hd _ ?_) (hd _ ?_), h.low, h.nod, h.key, h.pos⟩
  · exact List.mem_cons_of_mem _ (List.mem_cons_of_mem _ (mem_tsFp ht).1)
  · exact List.mem_cons_of_mem _ (List.mem_cons_of_mem _ (mem_tsFp ht).2)
theorem Leaf.keep {w w' : World} {B x : Nat} {f : Lf} (h : Leaf w B x f) (hb : Below w.heap.size w w') : Leaf w' B x f := h.stay (Stay.of_below hb []) (fun _ _ => by simp)
theorem Leaf.own {w : World} {B x : Nat} {f : Lf} (h : Leaf w B x f) : w.cell? ⟨f.a, 0, none⟩ = some (.int .i64 (f.l : Nat)) := by simp [World.cell?, h.blk]
theorem Leaf.tabs {w : World} {B x : Nat} {f : Lf} (h : Leaf w B x f) : w.cell? ⟨f.a, 1, none⟩ = some (.slice (some ⟨f.tb, 0, none⟩) f.ts.length f.cap) := by simp [World.cell?, h.blk]
theorem Leaf.frozen {w : World} {B x : Nat} {f : Lf} (h : Leaf w B x f) (o : Nat) : w.frozen? ⟨f.a, o, none⟩ = false := by simp [World.frozen?, h.blk]
theorem Leaf.at {w : World} {B x : Nat} {f : Lf} (h : Leaf w B x f) {i : Nat} {t : Tb} (hi : f.ts[i]? = some t) : w.cell? ⟨f.tb, i, none⟩ = some (ptr t.p) :=
  OwnP.cell h.row (by rw [List.getElem?_map, hi]; rfl)
theorem Leaf.max {w : World} {B x : Nat} {f : Lf} (h : Leaf w B x f) : f.ts.length ≤ 9223372036854775807 := by have := OwnR.cap h.row; unfold maxLen at this; omega
theorem take_more {α : Type} {l : List α} {i : Nat} {t : α} (hi : l[i]? = some t) : l.take (i + 1) = l.take i ++ [t] := by rw [List.take_add_one, hi]; rfl
theorem get_of_lt {α : Type} {l : List α} {i : Nat} (hi : i < l.length) : ∃ t, l[i]? = some t ∧ t ∈ l := ⟨l[i], List.getElem?_eq_getElem hi, List.getElem_mem hi⟩
theorem size_any (B x : Nat) (f : Lf) (w : World) (hL : Leaf w B x f) (hn : f.es.length ≤ 1000000) :
    Calls Tryz.prog 176 #[ptr f.a] w fun e w' => e = .returned (.int .i64 (f.es.length : Nat)) ∧ w' = w := by
  have HL : Hid (Leaf w B x f) := hL
  have hc := hL.tabs
  have hmx := hL.max
  have HN : Hid (f.es.length ≤ 1000000) := hn
  have HE : Hid (f.es = tsEs f.ts) := rfl
  generalize hm : f.ts.length = m at hc hmx
  have HM : Hid (f.ts.length = m) := hm
  clear hL hn hm
  go_enter Tryz.func176, Tryz.ntmps176
  go_wp2
  go_loopg [3, 5, 11] m (fun q nv tv iv wr => w = wr ∧ ∃ i : Nat, i + q = m ∧ iv = .int .i64 i ∧ nv = .int .i64 ((tsEs (f.ts.take i)).length : Nat))
  case atStart => exact ⟨rfl, 0, by omega, rfl, rfl⟩
  case round =>
    obtain ⟨rfl, i, hi, rfl, rfl⟩ := hrel
    by_cases h8 : (i : Int) < m
    · obtain ⟨t, ht, htm⟩ := get_of_lt (l := f.ts) (i := i) (by have := HM.out; omega)
      have hk := HL.out.at ht
      have hLen := Len_any _ _ _ _ _ _ _ (HL.out.tab t htm)
      have HS : Hid ((tsEs (f.ts.take (i + 1))).length = (tsEs (f.ts.take i)).length + (ents t.z).length) := by show _ = _; rw [take_more ht, tsEs_append, List.length_append, tsEs_one]; rfl
      have hle : (tsEs (f.ts.take (i + 1))).length ≤ 1000000 := by
        have h1 := HN.out
        rw [HE.out, ← List.take_append_drop (i + 1) f.ts, tsEs_append, List.length_append] at h1
        omega
      rw [HS.out] at hle
      generalize (tsEs (f.ts.take i)).length = c at HS hle ⊢
      generalize (ents t.z).length = d at HS hle hLen
      clear ht htm
      go_wp2_with fail
      refine hLen.mono ?_
      rintro e w ⟨rfl, rfl⟩
      go_wp2
      go_roundg (gk - 1)
      case measure => omega
      case rel => exact ⟨rfl, i + 1, by omega, by go_num, by rw [HS.out]; go_num⟩
    · have HT : Hid (f.ts.take i = f.ts) := by show _ = _; rw [List.take_of_length_le (by have := HM.out; omega)]
      rw [HT.out]
      go_wp2
      go_ret
      exact ⟨rfl, rfl⟩
theorem keysOf_append (a b : List En) : keysOf (a ++ b) = keysOf a ++ keysOf b := List.map_append ..
theorem splits_any (B x : Nat) (f : Lf) (w : World) (hL : Leaf w B x f) (hl : f.l ≤ 16) (hn : f.es.length ≤ 1000000) :
    Calls Tryz.prog 129 #[ptr f.a] w fun e w' => e = .returned (.bool (decide (f.l < 16) && decide (112 ≤ f.es.length))) ∧ w' = w := by
  have hS := fun w hL => size_any B x f w hL hn
  have hc := hL.own
  have HL : Hid (Leaf w B x f) := hL
  generalize f.es.length = m at hS hn ⊢
  generalize f.l = l at hc hl ⊢
  by_cases h1 : l < 16
  · have HR : Hid (decide (l < 16) = true) := decide_eq_true h1
    have h1z : (l : Int) < 16 := by omega
    clear hL
    go_enter Tryz.func129, Tryz.ntmps129
    go_wp2_with fail
    refine (hS _ HL.out).mono ?_
    rintro e w ⟨rfl, rfl⟩
    by_cases h2 : 112 ≤ m
    · have h2z : (112 : Int) ≤ m := by omega
      have HR2 : Hid (decide (112 ≤ m) = true) := decide_eq_true h2
      clear h2
      go_wp2
      go_ret
      exact ⟨by rw [HR.out, HR2.out]; rfl, rfl⟩
    · have h2z : decide ((112 : Int) ≤ m) = false := decide_eq_false (by omega)
      have HR2 : Hid (decide (112 ≤ m) = false) := decide_eq_false h2
      clear h2
      go_wp2
      go_ret
      exact ⟨by rw [HR.out, HR2.out]; rfl, rfl⟩
  · have HR : Hid (decide (l < 16) = false) := decide_eq_false h1
    obtain rfl : l = 16 := by omega
    clear hL
    go_enter Tryz.func129, Tryz.ntmps129
    go_wp2
    go_ret
    exact ⟨by rw [HR.out]; rfl, rfl⟩
/-- The table that has a key, or none. -/
theorem holder_yes (B x : Nat) (f : Lf) (k : ByteArray) (w : World) (hL : Leaf w B x f) (hks : k.size ≤ maxLen) (hk : k ∈ keysOf f.es) :
    Calls Tryz.prog 127 #[ptr f.a, .string k] w fun e w' => Below w.heap.size w w' ∧ ∃ t, e = .returned (ptr t.p) ∧ t ∈ f.ts ∧ k ∈ keysOf t.es := by
  have HL : Hid (Leaf w B x f) := hL
  have hc := hL.tabs
  have hmx := hL.max
  have HK : Hid (k ∈ keysOf (tsEs f.ts)) := hk
  have HKS : Hid (k.size ≤ maxLen) := hks
  generalize hm : f.ts.length = m at hc hmx
  have HM : Hid (f.ts.length = m) := hm
  clear hL hm hk hks
  go_enter Tryz.func127, Tryz.ntmps127
  go_wp2
  go_loopg [6, 7, 8, 14] m (fun q tv vv bv iv wr => ∃ i : Nat, i + q = m ∧ iv = .int .i64 i ∧ Hid (k ∉ keysOf (tsEs (f.ts.take i))) ∧ Hid (Below w.heap.size w wr))
  case atStart => exact ⟨0, by omega, rfl, (by simp [tsEs] : k ∉ _), Below.refl _ _⟩
  case round =>
    obtain ⟨i, hi, rfl, HNo, HB⟩ := hrel
    by_cases h8 : (i : Int) < m
    · obtain ⟨t, ht, htm⟩ := get_of_lt (l := f.ts) (i := i) (by have := HM.out; omega)
      have hcc := (HL.out.keep HB.out).at ht
      have HTab : Hid (Tab wr B t.p t.b x t.G t.z) := (HL.out.keep HB.out).tab t htm
      have HMm : Hid (t ∈ f.ts) := htm
      by_cases hin : k ∈ (ents t.z).map (·.1)
      · obtain ⟨⟨k0, v⟩, hv, rfl⟩ := List.mem_map.1 hin
        have hG := Get_some _ _ _ _ _ _ k0 v _ HTab.out HKS.out hv
        have HIn : Hid ((k0, v) ∈ t.es) := hv
        clear ht htm hin hv
        go_wp2_with fail
        refine hG.mono ?_
        rintro e w1 ⟨rfl, hb1⟩
        have HB1 := step_below HB hb1
        clear hb1 hG
        go_wp2
        go_ret
        exact ⟨HB1.out, t, rfl, HMm.out, v, HIn.out⟩
      · have hG := Get_none _ _ _ _ _ _ k _ HTab.out HKS.out hin
        have HNo1 : Hid (k ∉ keysOf (tsEs (f.ts.take (i + 1)))) := by
          show k ∉ _
          rw [take_more ht, tsEs_append, keysOf_append, tsEs_one, List.mem_append]
          exact fun h => h.elim HNo.out hin
        clear ht htm hin
        go_wp2_with fail
        refine hG.mono ?_
        rintro e w1 ⟨rfl, hb1⟩
        have HB1 := step_below HB hb1
        clear hb1 hG
        go_wp2
        go_roundg (gk - 1)
        case measure => omega
        case rel => exact ⟨i + 1, by omega, by go_num, HNo1, HB1⟩
    · exact absurd HK.out (by have := HNo.out; rw [List.take_of_length_le (by have := HM.out; omega)] at this; exact this)
theorem holder_no (B x : Nat) (f : Lf) (k : ByteArray) (w : World) (hL : Leaf w B x f) (hks : k.size ≤ maxLen) (hk : k ∉ keysOf f.es) :
    Calls Tryz.prog 127 #[ptr f.a, .string k] w fun e w' => e = .returned (.pointer none) ∧ Below w.heap.size w w' := by
  have HL : Hid (Leaf w B x f) := hL
  have hc := hL.tabs
  have hmx := hL.max
  have HK : Hid (∀ t ∈ f.ts, k ∉ (ents t.z).map (·.1)) := fun t ht h => hk (by
    obtain ⟨e, he, h1⟩ := List.mem_map.1 h
    exact List.mem_map.2 ⟨e, List.mem_flatMap.2 ⟨t, ht, he⟩, h1⟩)
  have HKS : Hid (k.size ≤ maxLen) := hks
  generalize hm : f.ts.length = m at hc hmx
  have HM : Hid (f.ts.length = m) := hm
  clear hL hm hk hks
  go_enter Tryz.func127, Tryz.ntmps127
  go_wp2
  go_loopg [6, 7, 8, 14] m (fun q tv vv bv iv wr => ∃ i : Nat, i + q = m ∧ iv = .int .i64 i ∧ Hid (Below w.heap.size w wr))
  case atStart => exact ⟨0, by omega, rfl, Below.refl _ _⟩
  case round =>
    obtain ⟨i, hi, rfl, HB⟩ := hrel
    by_cases h8 : (i : Int) < m
    · obtain ⟨t, ht, htm⟩ := get_of_lt (l := f.ts) (i := i) (by have := HM.out; omega)
      have hcc := (HL.out.keep HB.out).at ht
      have hG := Get_none _ _ _ _ _ _ k _ ((HL.out.keep HB.out).tab t htm) HKS.out (HK.out t htm)
      clear ht htm
      go_wp2_with fail
      refine hG.mono ?_
      rintro e w1 ⟨rfl, hb1⟩
      have HB1 := step_below HB hb1
      clear hb1 hG
      go_wp2
      go_roundg (gk - 1)
      case measure => omega
      case rel => exact ⟨i + 1, by omega, by go_num, HB1⟩
    · go_wp2
      go_ret
      exact ⟨rfl, HB.out⟩
theorem size_alloc (w : World) (o : Obj) : (w.alloc o).heap.size = w.heap.size + 1 := by
  show (w.heap.push o).size = _
  exact Array.size_push ..
/-- A leaf of one table that was made just now. -/
theorem newLeaf_any (l p : Nat) (w : World) :
    Calls Tryz.prog 42 #[.int .i64 (l : Nat), ptr p] w fun e w' => Below w.heap.size w w' ∧ ∃ a, e = .returned (ptr a) ∧ w.heap.size < a ∧ a < w'.heap.size ∧
      w'.heap[a]? = some (.cells #[.int .i64 (l : Nat), .slice (some ⟨w.heap.size, 0, none⟩) 1 1] 153 (0, 0)) ∧ OwnP w' w.heap.size 110 (some ⟨w.heap.size, 0, none⟩) 1 1 [p] := by
  obtain ⟨w1, hw1⟩ : ∃ w1, w.alloc (.cells #[ptr p] 110) = w1 := ⟨_, rfl⟩
  have HB1 : Hid (Below w.heap.size w w1) := by show Below _ _ _; rw [← hw1]; exact alloc_below w _
  have HS1 : Hid (w1.heap.size = w.heap.size + 1) := by show _ = _; rw [← hw1]; exact size_alloc w _
  have HO1 : Hid (OwnP w1 w.heap.size 110 (some ⟨w.heap.size, 0, none⟩) 1 1 [p]) := by
    show OwnP _ _ _ _ _ _ _
    rw [← hw1]
    exact ⟨rfl, .inr ⟨w.heap.size, 1, #[ptr p], rfl, Nat.le_refl _, heap_alloc_new w _, Nat.le_refl _, by decide, rfl, rfl⟩⟩
  obtain ⟨w2, hw2⟩ : ∃ w2, w1.alloc (.cells #[.int .i64 (l : Nat), .slice (some ⟨w.heap.size, 0, none⟩) 1 1] 153) = w2 := ⟨_, rfl⟩
  have HB2 : Hid (Below w1.heap.size w1 w2) := by show Below _ _ _; rw [← hw2]; exact alloc_below w1 _
  have HS2 : Hid (w2.heap.size = w1.heap.size + 1) := by show _ = _; rw [← hw2]; exact size_alloc w1 _
  have HK2 : Hid (w2.heap[w1.heap.size]? = some (.cells #[.int .i64 (l : Nat), .slice (some ⟨w.heap.size, 0, none⟩) 1 1] 153 (0, 0))) := by show _ = _; rw [← hw2]; exact heap_alloc_new w1 _
  go_enter Tryz.func42, Tryz.ntmps42
  go_wp2
  go_ret
  refine ⟨(step_below HB1 HB2.out).out, w1.heap.size, rfl, by have := HS1.out; omega, by have := HS2.out; omega, HK2.out, OwnR.keep HO1.out HB2.out⟩
theorem Tryz.size59 (w : World) : (sizeOf 110).run Tryz.prog w = .ok 1 w := by go_simp
theorem Tryz.elem151 : Tryz.prog.elem 151 = 110 := by simp [Program.elem, Tryz.underlying151]
/-- Block g has these cells. -/
def Bk (w : World) (g : Nat) (cur : List Value) : Prop := w.heap[g]? = some (.cells cur.toArray 110 (0, 0))
theorem Bk.lt {w : World} {g : Nat} {cur : List Value} (h : Bk w g cur) : g < w.heap.size := (Array.getElem?_eq_some_iff.1 h).1
theorem Bk.cell {w : World} {g : Nat} {cur : List Value} (h : Bk w g cur) (j : Nat) : w.cell? ⟨g, j, none⟩ = cur[j]? := by
  have h' : w.heap[g]? = some (.cells cur.toArray 110 (0, 0)) := h
  simp [World.cell?, h']
theorem Bk.frozen {w : World} {g : Nat} {cur : List Value} (h : Bk w g cur) (j : Nat) : w.frozen? ⟨g, j, none⟩ = false := by
  have h' : w.heap[g]? = some (.cells cur.toArray 110 (0, 0)) := h
  simp [World.frozen?, h']
theorem Bk.drew {w : World} {g : Nat} {cur : List Value} (h : Bk w g cur) : Bk w.drew g cur := h
theorem grown_refl (w : World) (row : Option Nat) : w.grownBy w row := ⟨rfl, rfl, rfl, Nat.le_refl _, fun _ _ _ => rfl⟩
theorem grown_trans {w w1 w2 : World} {row : Option Nat} (h1 : w.grownBy w1 row) (h2 : w1.grownBy w2 row) : w.grownBy w2 row :=
  ⟨h2.os.trans h1.os, h2.tape.trans h1.tape, h2.output.trans h1.output, Nat.le_trans h1.size h2.size, fun k hk hr => (h2.block k (Nat.lt_of_lt_of_le hk h1.size) hr).trans (h1.block k hk hr)⟩
theorem drew_grown {w w1 : World} {row : Option Nat} (h : w.drew.grownBy w1 row) : w.grownBy w1 row := ⟨h.os, h.tape, h.output, h.size, h.block⟩
theorem grown_setCell (w : World) (g o : Nat) (v : Value) : w.grownBy (w.setCell ⟨g, o, none⟩ v) (some g) :=
  ⟨rfl, rfl, rfl, by simp [World.setCell], fun k _ hr => Deep.blk_setCell_other w _ v k (fun e => hr (by rw [e]))⟩
theorem OwnP.parts {w : World} {B : Nat} {a : Option Addr} {n c : Nat} {l : List Nat} (h : OwnP w B 110 a n c l) (h0 : 0 < n) :
    ∃ g cur, a = some ⟨g, 0, none⟩ ∧ B ≤ g ∧ Bk w g cur ∧ n ≤ c ∧ c ≤ maxLen ∧ cur.length = c ∧ cur.take n = pcells l := by
  rcases h.2 with ⟨h2, h3⟩ | ⟨g, c', cur, h1, h3, h4, h5, h6, h7, h8⟩
  · omega
  · cases h1
    refine ⟨g, cur.toList, rfl, h3, by show _ = _; simpa using h4, h5, h6, by simpa using h7, ?_⟩
    simpa using h8
theorem OwnP.of {w : World} {B g n c : Nat} {cur : List Value} {l : List Nat} (hB : B ≤ g) (hk : Bk w g cur) (hn : n ≤ c) (hc : c ≤ maxLen) (hl : cur.length = c) (ht : cur.take n = pcells l) : OwnP w B 110 (some ⟨g, 0, none⟩) n c l := by
  have hlen : l.length = n := by
    have := congrArg List.length ht
    simp [pcells] at this
    omega
  refine ⟨by simp [pcells, hlen], .inr ⟨g, c, cur.toArray, rfl, hB, hk, hn, hc, by simp [hl], by simpa using ht⟩⟩
/-- s[lo:hi], s[lo:], s[:hi] of a row at its place. -/
theorem slice_at (g n c lo hi : Nat) (h1 : lo ≤ hi) (h2 : hi ≤ c) :
    ∃ o, (lo < c → o = lo) ∧ ∀ wx, (Instr.sliceAt 151 (.slice (some ⟨g, 0, none⟩) n c) (some (.int .i64 lo)) (some (.int .i64 hi)) none).run Tryz.prog wx = .ok (.slice (some ⟨g, o, none⟩) (hi - lo) (c - lo)) wx := by
  have ht : Tryz.prog.underlying 151 = some (.slice (Tryz.prog.elem 151)) := by rw [Tryz.elem151]; exact Tryz.underlying151
  refine ⟨if c = lo then 0 else lo, fun h => by rw [if_neg (by omega)], fun wx => ?_⟩
  rw [run_sliceAt_slice _ _ _ _ _ _ ht, run_slice_lh (P := Tryz.prog) wx 151 _ n c ht .i64 .i64 lo hi (by omega) (by omega) (by omega), Tryz.elem151, Tryz.size59]
  simp only [Result.andThen, sliced, Int.toNat_natCast]
  split <;> simp [*, add_flat]
theorem slice_lo (g n c lo : Nat) (h1 : lo ≤ n) :
    ∃ o, (lo < c → o = lo) ∧ ∀ wx, (Instr.sliceAt 151 (.slice (some ⟨g, 0, none⟩) n c) (some (.int .i64 lo)) none none).run Tryz.prog wx = .ok (.slice (some ⟨g, o, none⟩) (n - lo) (c - lo)) wx := by
  have ht : Tryz.prog.underlying 151 = some (.slice (Tryz.prog.elem 151)) := by rw [Tryz.elem151]; exact Tryz.underlying151
  refine ⟨if c = lo then 0 else lo, fun h => by rw [if_neg (by omega)], fun wx => ?_⟩
  rw [run_sliceAt_slice _ _ _ _ _ _ ht, run_slice_l (P := Tryz.prog) wx 151 _ n c ht .i64 lo (by omega) (by omega), Tryz.elem151, Tryz.size59]
  simp only [Result.andThen, sliced, Int.toNat_natCast]
  split <;> simp [*, add_flat]
theorem slice_hi (g n c hi : Nat) (h1 : hi ≤ c) :
    ∀ wx, (Instr.sliceAt 151 (.slice (some ⟨g, 0, none⟩) n c) none (some (.int .i64 hi)) none).run Tryz.prog wx = .ok (.slice (some ⟨g, 0, none⟩) hi c) wx := by
  have ht : Tryz.prog.underlying 151 = some (.slice (Tryz.prog.elem 151)) := by rw [Tryz.elem151]; exact Tryz.underlying151
  intro wx
  rw [run_sliceAt_slice _ _ _ _ _ _ ht, run_slice_h (P := Tryz.prog) wx 151 _ n c ht .i64 hi (by omega) (by omega), Tryz.elem151, Tryz.size59]
  simp [Result.andThen, sliced, add_flat]
theorem cur_set {w : World} {g : Nat} {cur : List Value} (h : Bk w g cur) (o : Nat) (v : Value) : Bk (w.setCell ⟨g, o, none⟩ v) g (cur.set o v) := by
  have h' : w.heap[g]? = some (.cells cur.toArray 110 (0, 0)) := h
  have hlt : g < w.heap.size := (Array.getElem?_eq_some_iff.1 h').1
  have hv : w.heap[g] = .cells cur.toArray 110 (0, 0) := (Array.getElem?_eq_some_iff.1 h').2
  show (w.setCell ⟨g, o, none⟩ v).heap[g]? = _
  simp [World.setCell, Array.getElem?_modify, h']
theorem splice_set (cur : List Value) (o : Nat) (v : Value) (vs : List Value) (h : o + (vs.length + 1) ≤ cur.length) : splice (cur.set o v) (o + 1) vs = splice cur o (v :: vs) := by
  unfold splice
  rw [List.length_cons, List.take_set, List.drop_set_of_lt (by omega), show o + 1 + vs.length = o + (vs.length + 1) by omega]
  have : (cur.take (o + 1)).set o v = cur.take o ++ [v] := by
    rw [List.take_add_one, List.getElem?_eq_getElem (by omega), Option.toList_some, List.set_append_right _ _ (by rw [List.length_take]; omega)]
    rw [List.length_take, Nat.min_eq_left (by omega), Nat.sub_self]; rfl
  rw [this, List.append_assoc]; rfl
theorem bk_cells {g : Nat} : ∀ (vs : List Value) (o : Nat) (w : World) (cur : List Value), Bk w g cur → o + vs.length ≤ cur.length → Bk (w.setCells g o vs) g (splice cur o vs) ∧ w.grownBy (w.setCells g o vs) (some g)
  | [], o, w, cur, h, hl => ⟨by simpa [splice, World.setCells] using h, grown_refl _ _⟩
  | v :: vs, o, w, cur, h, hl => by
    have h1 := bk_cells vs (o + 1) (w.setCell ⟨g, o, none⟩ v) (cur.set o v) (cur_set h o v) (by simp at hl ⊢; omega)
    rw [splice_set cur o v vs (by simpa using hl)] at h1
    exact ⟨h1.1, grown_trans (grown_setCell w g o v) h1.2⟩
/-- clear(d), d in block g. -/
theorem clear_in {w : World} {ops : Array Oper} {rest : List Oper} {o : Oper} {ac : Act} {Q : Exit → Act → World → Prop} (hgd : o.guard = none) (d : Operand) (ho : o.op = .call { callee := .builtin .clear, args := #[d], argTypes := #[151] })
    {g off dLen dCap : Nat} (hd : ac.eval d = .slice (some ⟨g, off, none⟩) dLen dCap) (cur : List Value) (hB : Bk w g cur) (hfit : off + dLen ≤ cur.length)
    (h : ∀ w', Hid (Bk w' g (splice cur off (List.replicate dLen (.pointer none)))) → Hid (w.grownBy w' (some g)) → wpList Tryz.prog ops Q rest (ac.put o.dst (.tuple #[])) w') : wpList Tryz.prog ops Q (o :: rest) ac w := by
  by_cases h0 : dLen = 0
  · subst h0
    have hr : ∀ ty, (Builtin.clear_ #[151] ty #[.slice (some ⟨g, off, none⟩) 0 dCap]).run Tryz.prog w = .ok (.tuple #[]) w := by
      intro ty
      simp [Builtin.clear_, run_underlying Tryz.underlying151]
    refine wpList_plain hgd fun K hK => ?_
    unfold Oper.wp
    simp [execOp, ho, resolve, invoke, builtin, hd, hr, Result.andThen]
    exact hK _ _ (h w (by show Bk _ _ _; simpa [splice] using hB) (grown_refl _ _))
  · have hz : ∀ w, (zeroValue 110).run Tryz.prog w = .ok (.pointer none) w := fun w => by go_simp
    have hr := fun ty => Lib.run_clear_slice (P := Tryz.prog) w 151 110 ty (.pointer none) Tryz.underlying151 hz rfl rfl g off dLen dCap (by omega)
      (fun j hj => by rw [hB.cell, List.getElem?_eq_getElem (by omega)]; rfl) (fun j hj => hB.frozen _)
    have hb := bk_cells (List.replicate dLen (.pointer none)) off w cur hB (by simpa using hfit)
    refine wpList_plain hgd fun K hK => ?_
    unfold Oper.wp
    simp [execOp, ho, resolve, invoke, builtin, hd, hr, Result.andThen]
    exact hK _ _ (h _ hb.1 hb.2)
theorem pcells_len (l : List Nat) : (pcells l).length = l.length := List.length_map ..
theorem pcells_take (l : List Nat) (n : Nat) : (pcells l).take n = pcells (l.take n) := (List.map_take ..).symm
theorem pcells_drop (l : List Nat) (n : Nat) : (pcells l).drop n = pcells (l.drop n) := (List.map_drop ..).symm
theorem of_take {cur L : List Value} {n : Nat} (h : cur.take n = L) (j : Nat) (hj : j < n) : cur[j]? = L[j]? := by rw [← h, List.getElem?_take, if_pos hj]
theorem cell_of {w : World} {g : Nat} {cur : List Value} {l : List Nat} {n : Nat} (hB : Bk w g cur) (ht : cur.take n = pcells l) (i : Nat) (hl : l.length ≤ n) : ∀ j v, (pcells (l.drop i))[j]? = some v → w.cell? ((⟨g, i, none⟩ : Addr).add j) = some v := by
  intro j v hv
  rw [add_flat, hB.cell]
  have hj : i + j < l.length := by
    rw [← pcells_drop, List.getElem?_drop] at hv
    have := (List.getElem?_eq_some_iff.1 hv).1
    rwa [pcells_len] at this
  rw [of_take ht _ (by omega)]
  rw [← pcells_drop, List.getElem?_drop] at hv
  exact hv
theorem run_append_in (w : World) (g n c : Nat) (cur : List Value) (hB : Bk w g cur) (hc : cur.length = c) (ad : Addr) (m xc : Nat) (cs : List Value) (hm : cs.length = m) (hsrc : ∀ j v, cs[j]? = some v → w.cell? (ad.add j) = some v) (h1 : ∀ v ∈ cs, v.oneCell' = true) (hroom : n + m ≤ c) :
    ∃ w', (∀ ty, (Builtin.append_ #[151, 151] ty #[.slice (some ⟨g, 0, none⟩) n c, .slice (some ad) m xc]).run Tryz.prog w = .ok (.slice (some ⟨g, 0, none⟩) (n + m) c) w') ∧ Bk w' g (splice cur n cs) ∧ w.grownBy w' (some g) := by
  obtain ⟨i0, hi, hz0, hz1, hz2⟩ := info_parts Tryz.infoT
  have hb := bk_cells cs n w cur hB (by omega)
  refine ⟨_, fun ty => ?_, hb.1, hb.2⟩
  have hrun := run_append_room_cells (P := Tryz.prog) w 151 ty 110 i0 Tryz.underlying151 hi g 0 n c ad m xc cs (by rw [hz1]; omega) hsrc h1 hroom
    (fun j hj => by rw [hB.cell, hz1, List.getElem?_eq_getElem (by omega)]; rfl) (fun j hj => hB.frozen _)
  rw [hrun, hz1, Nat.zero_add, Nat.mul_one]
theorem step_append_in {w : World} {ops : Array Oper} {o : Oper} {ac : Act} {K : Act → World → Prop} {Q : Exit → Act → World → Prop} {E : Prop} (hgd : o.guard = none) (s x : Operand) (ho : o.op = .call { callee := .builtin .append, args := #[s, x], argTypes := #[151, 151] })
    {g n c : Nat} {ad : Addr} {m xc : Nat} (hs : ac.eval s = .slice (some ⟨g, 0, none⟩) n c) (hx : ac.eval x = .slice (some ad) m xc) (cur : List Value) (hB : Bk w g cur) (hc : cur.length = c) (cs : List Value) (hm : cs.length = m)
    (hsrc : ∀ j v, cs[j]? = some v → w.cell? (ad.add j) = some v) (h1 : ∀ v ∈ cs, v.oneCell' = true) (hroom : n + m ≤ c)
    (h : ∀ w', Hid (Bk w' g (splice cur n cs)) → Hid (w.grownBy w' (some g)) → K (ac.put o.dst (.slice (some ⟨g, 0, none⟩) (n + m) c)) w') : if Region.wanted o (yielded ops ac.tmps) = true then Oper.wp Tryz.prog o ac w K Q else E := by
  have hw : Region.wanted o (yielded ops ac.tmps) = true := by simp [Region.wanted, hgd]
  rw [if_pos hw]
  obtain ⟨w', hr, h2, h3⟩ := run_append_in w g n c cur hB hc ad m xc cs hm hsrc h1 hroom
  unfold Oper.wp
  simp [execOp, ho, resolve, invoke, builtin, hs, hx, hr, Result.andThen]
  exact h w' h2 h3
theorem take_splice_at (cur cs : List Value) (i : Nat) (h : i + cs.length ≤ cur.length) : (splice cur i cs).take (i + cs.length) = cur.take i ++ cs := by
  unfold splice
  rw [← List.append_assoc, List.take_append_of_le_length (by rw [List.length_append, List.length_take]; omega), List.take_of_length_le (by rw [List.length_append, List.length_take]; omega)]
theorem take_splice_low (cur cs : List Value) (i k : Nat) (h : k ≤ i) (hi : i ≤ cur.length) : (splice cur i cs).take k = cur.take k := by
  unfold splice
  rw [List.take_append_of_le_length (by rw [List.length_take]; omega), List.take_take, Nat.min_eq_left h]
/-- s[lo:hi:max]. -/
theorem slice_lhm (a : Option Addr) (n c lo hi mx : Nat) (h1 : lo ≤ hi) (h2 : hi ≤ mx) (h3 : mx ≤ c) :
    ∃ a', ∀ wx, (Instr.sliceAt 151 (.slice a n c) (some (.int .i64 lo)) (some (.int .i64 hi)) (some (.int .i64 mx))).run Tryz.prog wx = .ok (.slice a' (hi - lo) (mx - lo)) wx := by
  have ht : Tryz.prog.underlying 151 = some (.slice (Tryz.prog.elem 151)) := by rw [Tryz.elem151]; exact Tryz.underlying151
  refine ⟨if mx = lo then a else a.map (·.add (lo * 1)), fun wx => ?_⟩
  rw [run_sliceAt_slice _ _ _ _ _ _ ht, run_slice_lhm (P := Tryz.prog) wx 151 _ n c ht .i64 .i64 .i64 lo hi mx (by omega) (by omega) (by omega) (by omega), Tryz.elem151, Tryz.size59]
  simp only [Result.andThen, sliced, Int.toNat_natCast]
set_option maxRecDepth 100000 in
set_option maxHeartbeats 4000000 in
theorem delete_some (B : Nat) (g n c : Nat) (l : List Nat) (i j : Nat) (w : World) (cur : List Value) (hBg : B ≤ g) (hg : Bk w g cur) (hn : n ≤ c) (hcm : c ≤ maxLen) (hcl : cur.length = c) (ht : cur.take n = pcells l)
    (hl : l.length = n) (hi : i < j) (hj : j ≤ n) :
    Calls Tryz.prog 179 #[.slice (some ⟨g, 0, none⟩) n c, .int .i64 i, .int .i64 j] w fun e w' => ∃ n' c', e = .returned (.slice (some ⟨g, 0, none⟩) n' c') ∧ OwnP w' B 110 (some ⟨g, 0, none⟩) n' c' (l.take i ++ l.drop j) ∧ w.grownBy w' (some g) := by
  unfold maxLen at hcm
  obtain ⟨a3, s1⟩ := slice_lhm (some ⟨g, 0, none⟩) n c i j n (by omega) hj hn
  have s2 := slice_hi g n c i (by omega)
  obtain ⟨o3, ho3, s3⟩ := slice_lo g n c j (by omega)
  obtain ⟨k, hK⟩ : ∃ k, i + (n - j) = k := ⟨_, rfl⟩
  obtain ⟨o4, ho4, s4⟩ := slice_at g k c k n (by omega) (by omega)
  have hO4 : o4 = k := ho4 (by omega)
  subst hO4
  obtain ⟨X, hX⟩ : ∃ X, X = pcells (l.drop j) := ⟨_, rfl⟩
  have hXl : X.length = n - j := by rw [hX, pcells_len, List.length_drop]; omega
  have HXl : Hid (X.length = n - j) := hXl
  have HG : Hid (Bk w.drew g cur) := hg.drew
  have HC : Hid (cur.length = c) := hcl
  have HX2 : Hid (∀ q v, X[q]? = some v → w.drew.cell? ((⟨g, o3, none⟩ : Addr).add q) = some v) := by
    show ∀ _, _
    intro q v hv
    have hq := (List.getElem?_eq_some_iff.1 hv).1
    rw [ho3 (by omega)]
    rw [hX] at hv
    exact cell_of hg.drew ht j (by omega) q v hv
  have HX4 : Hid (∀ v ∈ X, v.oneCell' = true) := by show ∀ _, _; rw [hX]; exact pcells_one
  have HR : Hid (i + (n - j) ≤ c) := by show _ ≤ _; omega
  have HK : Hid (i + (n - j) = o4) := hK
  have HL : Hid ((splice cur i X).take o4 = pcells (l.take i ++ l.drop j)) := by
    show _ = _
    have := take_splice_at cur X i (by omega)
    rw [show i + X.length = o4 by omega] at this
    rw [this, pcells_append, hX, ← pcells_take, ← ht, List.take_take, Nat.min_eq_left (by omega)]
  have HF : Hid (o4 + (n - o4) ≤ (splice cur i X).length) := by show _ ≤ _; rw [length_splice _ _ _ (by omega)]; omega
  have HF2 : Hid ((splice cur i X).length = c) := by show _ = _; rw [length_splice _ _ _ (by omega)]; omega
  have HBg : Hid (B ≤ g) := hBg
  have hz2 : ¬ ((i : Int) = (j : Int)) := by omega
  have hok : o4 ≤ c := by omega
  have hon : o4 ≤ n := by omega
  clear hX hXl ht hcl hg ho3 ho4 hBg hK
  go_enter Tryz.func179, Tryz.ntmps179
  go_wp2_with fail
  go_region_law (refine step_append_in rfl (.tmp 22) (.tmp 25) rfl (by simp [Act.eval, Act.put] <;> rfl) (by simp [Act.eval, Act.put] <;> rfl) cur HG.out HC.out X HXl.out HX2.out HX4.out HR.out ?_; intro w1 HB1 HG1; rw [HK.out])
  go_wp2_with (refine clear_in rfl (.tmp 31) rfl rfl _ HB1.out HF.out ?_; intro w2 HB2 HG2)
  go_ret
  refine ⟨_, _, rfl, OwnP.of HBg.out HB2.out hok hcm ?_ ?_, grown_trans (drew_grown HG1.out) HG2.out⟩
  · exact (length_splice _ _ _ (by rw [List.length_replicate]; exact HF.out)).trans HF2.out
  · exact (take_splice_low _ _ _ _ (Nat.le_refl _) (Nat.le_trans hok (Nat.le_of_eq HF2.out.symm))).trans HL.out
theorem Delete_row (B g n c : Nat) (l : List Nat) (i : Nat) (w : World) (hO : OwnP w B 110 (some ⟨g, 0, none⟩) n c l) (hi : i < n) :
    Calls Tryz.prog 179 #[.slice (some ⟨g, 0, none⟩) n c, .int .i64 i, .int .i64 ((i : Int) + 1)] w fun e w' => ∃ n' c', e = .returned (.slice (some ⟨g, 0, none⟩) n' c') ∧ OwnP w' B 110 (some ⟨g, 0, none⟩) n' c' (l.take i ++ l.drop (i + 1)) ∧ w.grownBy w' (some g) := by
  obtain ⟨g', cur, ha, h1, h2, h3, h4, h5, h6⟩ := OwnP.parts hO (by omega)
  cases ha
  exact delete_some B g n c l i (i + 1) w cur h1 h2 h3 h4 h5 h6 (OwnP.len hO) (by omega) hi
end Go.Proofs.YtnajhjmdpaeelaaGreatDoor.Dk
