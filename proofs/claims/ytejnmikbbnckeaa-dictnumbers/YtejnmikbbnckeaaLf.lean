/-
  What is as it was behind a call, but for some blocks; rows of pointers; leaves in memory: their tables, their blocks.
-/
import Derived.Test.YtejnmikbbnckeaaParts
import Derived.Test.YtejnmikbbnckeaaSplit
import Derived.Test.YtejnmikbbnckeaaShp
namespace Go.Proofs.Ytejnmikbbnckeaa
open Go.RowKit Go.PlainAid

/-- All is as it was, but for the blocks of M and what is new. -/
structure Stay (w w' : World) (M : List Nat) : Prop where
  os : w'.os = w.os
  tape : w'.tape = w.tape
  output : w'.output = w.output
  size : w.heap.size ≤ w'.heap.size
  block : ∀ k, k < w.heap.size → k ∉ M → w'.heap[k]? = w.heap[k]?
theorem Stay.of_below {w w' : World} (h : Below w.heap.size w w') (M : List Nat) : Stay w w' M := ⟨h.os, h.tape, h.output, h.size, fun k hk _ => h.block k hk⟩
theorem Stay.of_moves {w w' : World} {p b : Nat} (h : Moves w w' p b) : Stay w w' [p, b] :=
  ⟨h.os, h.tape, h.output, h.size, fun k hk hn => h.block k hk (fun e => hn (by simp [e])) (fun e => hn (by simp [e]))⟩
theorem Stay.trans {w w1 w2 : World} {M M' : List Nat} (h : Stay w w1 M) (k : Stay w1 w2 M') (hM : ∀ i ∈ M', i ∈ M ∨ w.heap.size ≤ i) : Stay w w2 M :=
  ⟨k.os.trans h.os, k.tape.trans h.tape, k.output.trans h.output, Nat.le_trans h.size k.size, fun i hi hn =>
    (k.block i (Nat.lt_of_lt_of_le hi h.size) (fun hm => (hM i hm).elim hn (fun h1 => by omega))).trans (h.block i hi hn)⟩
theorem Stay.mono {w w' : World} {M M' : List Nat} (h : Stay w w' M) (hM : ∀ i ∈ M, i ∈ M') : Stay w w' M' :=
  ⟨h.os, h.tape, h.output, h.size, fun k hk hn => h.block k hk (fun hm => hn (hM k hm))⟩
theorem Stay.below {w w' : World} {M : List Nat} {B : Nat} (h : Stay w w' M) (hM : ∀ i ∈ M, B ≤ i) (hB : B ≤ w.heap.size) : Below B w w' :=
  ⟨h.os, h.tape, h.output, h.size, fun k hk => h.block k (Nat.lt_of_lt_of_le hk hB) (fun hm => by have := hM k hm; omega)⟩
theorem Stay.set {w : World} {q o : Nat} {v : Value} : Stay w (w.setCell ⟨q, o, none⟩ v) [q] :=
  ⟨rfl, rfl, rfl, by simp [World.setCell], fun k _ h1 => Below.heap_setCell _ _ _ _ (by simpa using h1)⟩
theorem Stay.grown {w w2 : World} {row : Option Nat} {M : List Nat} (h : w.grownBy w2 row) (hr : ∀ g, row = some g → g ∈ M) : Stay w w2 M :=
  ⟨h.os, h.tape, h.output, h.size, fun k hk hn => h.block k hk (fun e => hn (hr k e.symm))⟩

theorem Top.stay {w w' : World} {p b x G : Nat} {M : List Nat} (h : Top w p b x G) (hs : Stay w w' M) (hp : p ∉ M) : Top w' p b x G := h.kept (hs.block p h.lt hp)
theorem Tab.stay {w w' : World} {B p b x G : Nat} {z : List Cl} {M : List Nat} (h : Tab w B p b x G z) (hs : Stay w w' M) (hp : p ∉ M) (hb : b ∉ M) : Tab w' B p b x G z :=
  ⟨h.top.stay hs hp, h.row.kept (hs.block b h.row.lt hb), h.low, h.lowb, h.inv, h.seed, h.siz⟩
theorem Tab.lower {w : World} {B C p b x G : Nat} {z : List Cl} (h : Tab w B p b x G z) (hC : C ≤ B) : Tab w C p b x G z :=
  ⟨h.top, h.row, Nat.le_trans hC h.low, Nat.le_trans hC h.lowb, h.inv, h.seed, h.siz⟩
theorem OwnR.stay {w w' : World} {B : Nat} {e : TypeId} {s : Nat} {a : Option Addr} {n cap : Nat} {cs : List Value} {M : List Nat} (h : OwnR w B e s a n cap cs) (hs : Stay w w' M) (hd : ∀ k, a.map (·.block) = some k → k ∉ M) : OwnR w' B e s a n cap cs :=
  h.kept fun k hk => hs.block k (h.lt hk).2.1 (hd k hk)

/-- append(l, x...), in a plain region. -/
theorem append_p {w : World} {ops : Array Oper} {rest : List Oper} {o : Oper} {ac : Act} {Q : Exit → Act → World → Prop} (hgd : o.guard = none) (s x : Operand) {t e : TypeId} {by8 : Nat} (ho : o.op = .call { callee := .builtin .append, args := #[s, x], argTypes := #[t, t] })
    (F : Elt t e 1 by8) (B : Nat) {a : Option Addr} {n cap : Nat} {cs : List Value} (hs : ac.eval s = .slice a n cap) (hown : OwnR w B e 1 a n cap cs) {a' : Option Addr} {n' cap' : Nat} {rs : List Value} (hx : ac.eval x = .slice a' n' cap') (hr : RdR w a' n' cap' rs)
    (h1 : ∀ u ∈ rs, u.oneCell' = true) (hb : (n + n') * by8 ≤ 140737488355328) (h63 : n + n' ≤ maxLen) (hB : B ≤ w.heap.size)
    (h : ∀ a2 n2 c2 w2, n2 = n + n' → Hid (OwnR w2 B e 1 a2 n2 c2 (cs ++ rs)) → Hid (w.grownBy w2 (a.map (·.block))) → wpList Try.prog ops Q rest (ac.put o.dst (.slice a2 n2 c2)) w2) : wpList Try.prog ops Q (o :: rest) ac w := by
  obtain ⟨a2, c2, w2, k1, k2, k3⟩ := run_append_p w B F hown hr h1 hb h63 hB o.type
  refine wpList_plain hgd fun K hK => ?_
  unfold Oper.wp
  simp [execOp, ho, resolve, invoke, builtin, hs, hx, k1, Result.andThen]
  exact hK _ _ (h a2 _ c2 w2 rfl k2 k3)

/-- Rows of pointers. -/
def pcells (ls : List Nat) : List Value := ls.map ptr
abbrev OwnP (w : World) (B : Nat) (e : TypeId) (a : Option Addr) (n cap : Nat) (ls : List Nat) : Prop := OwnR w B e 1 a n cap (pcells ls)
theorem Try.infoT : (Try.prog.info? 59).map (fun i => (i.zero, i.size, i.bytes)) = some (some (.pointer none), 1, 8) := by kernel_rfl
theorem Try.infoL : (Try.prog.info? 57).map (fun i => (i.zero, i.size, i.bytes)) = some (some (.pointer none), 1, 8) := by kernel_rfl
theorem eltT : Elt 82 59 1 8 := elt_of Try.underlying82 Try.infoT rfl (by decide)
theorem eltL : Elt 61 57 1 8 := elt_of Try.underlying61 Try.infoL rfl (by decide)
theorem pcells_append (l r : List Nat) : pcells (l ++ r) = pcells l ++ pcells r := List.map_append ..
theorem pcells_one {ls : List Nat} : ∀ u ∈ pcells ls, u.oneCell' = true := by
  intro u hu
  obtain ⟨i, -, rfl⟩ := List.mem_map.1 hu
  rfl
theorem scells_one {ls : List ByteArray} : ∀ u ∈ scells ls, u.oneCell' = true := by
  intro u hu
  obtain ⟨i, -, rfl⟩ := List.mem_map.1 hu
  rfl
theorem OwnP.len {w : World} {B : Nat} {e : TypeId} {a : Option Addr} {n cap : Nat} {ls : List Nat} (h : OwnP w B e a n cap ls) : ls.length = n := by have := OwnR.len h; simpa [pcells] using this
theorem OwnP.cell {w : World} {B : Nat} {e : TypeId} {g n cap : Nat} {ls : List Nat} (h : OwnP w B e (some ⟨g, 0, none⟩) n cap ls) {j p : Nat} (hj : ls[j]? = some p) : w.cell? ⟨g, j, none⟩ = some (ptr p) := by
  have hl := OwnP.len h
  have hlt : j < ls.length := by
    rcases Nat.lt_or_ge j ls.length with h1 | h1
    · exact h1
    · rw [List.getElem?_eq_none h1] at hj; cases hj
  obtain ⟨g', h1, h2⟩ := OwnR.at h (by omega)
  cases h1
  exact h2 _ _ (by rw [pcells, List.getElem?_map, hj]; rfl)

/-- A table: where it lies, its slots. -/
structure Tb where
  p : Nat
  b : Nat
  G : Nat
  z : List Cl
def Tb.es (t : Tb) : List En := ents t.z
def Tb.fp (t : Tb) : List Nat := [t.p, t.b]
def tsEs (ts : List Tb) : List En := ts.flatMap Tb.es
def tsFp (ts : List Tb) : List Nat := ts.flatMap Tb.fp
/-- A leaf: its own depth, its bits; where it lies, where the row of its tables; its tables. -/
structure Lf where
  l : Nat
  q : Nat
  a : Nat
  tb : Nat
  cap : Nat
  ts : List Tb
def Lf.es (f : Lf) : List En := tsEs f.ts
def Lf.fp (f : Lf) : List Nat := f.a :: f.tb :: tsFp f.ts
def Lf.pt (f : Lf) : Pt := (f.l, f.q)

theorem tsEs_append (a b : List Tb) : tsEs (a ++ b) = tsEs a ++ tsEs b := List.flatMap_append ..
theorem tsEs_cons (t : Tb) (b : List Tb) : tsEs (t :: b) = t.es ++ tsEs b := List.flatMap_cons ..
theorem tsEs_one (t : Tb) : tsEs [t] = t.es := by rw [tsEs_cons]; exact List.append_nil _
theorem tsFp_append (a b : List Tb) : tsFp (a ++ b) = tsFp a ++ tsFp b := List.flatMap_append ..
theorem tsFp_cons (t : Tb) (b : List Tb) : tsFp (t :: b) = t.p :: t.b :: tsFp b := by rw [tsFp, List.flatMap_cons]; rfl
theorem mem_tsFp {ts : List Tb} {t : Tb} (h : t ∈ ts) : t.p ∈ tsFp ts ∧ t.b ∈ tsFp ts :=
  ⟨List.mem_flatMap.2 ⟨t, h, by simp [Tb.fp]⟩, List.mem_flatMap.2 ⟨t, h, by simp [Tb.fp]⟩⟩

/-- A leaf in memory. -/
structure Leaf (w : World) (B x : Nat) (f : Lf) : Prop where
  blk : w.heap[f.a]? = some (.cells #[.int .i64 (f.l : Nat), .slice (some ⟨f.tb, 0, none⟩) f.ts.length f.cap] 84 (0, 0))
  row : OwnP w B 59 (some ⟨f.tb, 0, none⟩) f.ts.length f.cap (f.ts.map (·.p))
  tab : ∀ t ∈ f.ts, Tab w B t.p t.b x t.G t.z
  low : B ≤ f.a
  nod : f.fp.Nodup
  key : (keysOf f.es).Nodup
  pos : 0 < f.ts.length
theorem Leaf.lt {w : World} {B x : Nat} {f : Lf} (h : Leaf w B x f) : f.a < w.heap.size := (Array.getElem?_eq_some_iff.1 h.blk).1
theorem Leaf.fplt {w : World} {B x : Nat} {f : Lf} (h : Leaf w B x f) : ∀ k ∈ f.fp, B ≤ k ∧ k < w.heap.size := by
  intro k hk
  rcases List.mem_cons.1 hk with rfl | hk
  · exact ⟨h.low, h.lt⟩
  rcases List.mem_cons.1 hk with rfl | hk
  · have := OwnR.lt h.row (k := f.tb) rfl
    exact ⟨this.1, this.2.1⟩
  · obtain ⟨t, ht, hk⟩ := List.mem_flatMap.1 hk
    have hT := h.tab t ht
    simp only [Tb.fp, List.mem_cons, List.not_mem_nil, or_false] at hk
    rcases hk with rfl | rfl
    · exact ⟨hT.low, hT.top.lt⟩
    · exact ⟨hT.lowb, hT.row.lt⟩
theorem Leaf.stay {w w' : World} {B x : Nat} {f : Lf} {M : List Nat} (h : Leaf w B x f) (hs : Stay w w' M) (hd : ∀ k ∈ f.fp, k ∉ M) : Leaf w' B x f := by
  refine ⟨by rw [hs.block f.a h.lt (hd _ (by simp [Lf.fp]))]; exact h.blk, OwnR.stay h.row hs (fun k hk => hd k (by cases hk; simp [Lf.fp])), fun t ht => (h.tab t ht).stay hs (hd _ ?_) (hd _ ?_), h.low, h.nod, h.key, h.pos⟩
  · exact List.mem_cons_of_mem _ (List.mem_cons_of_mem _ (mem_tsFp ht).1)
  · exact List.mem_cons_of_mem _ (List.mem_cons_of_mem _ (mem_tsFp ht).2)
theorem Leaf.keep {w w' : World} {B x : Nat} {f : Lf} (h : Leaf w B x f) (hb : Below w.heap.size w w') : Leaf w' B x f := h.stay (Stay.of_below hb []) (fun _ _ => by simp)
theorem Leaf.own {w : World} {B x : Nat} {f : Lf} (h : Leaf w B x f) : w.cell? ⟨f.a, 0, none⟩ = some (.int .i64 (f.l : Nat)) := by simp [World.cell?, h.blk]
theorem Leaf.tabs {w : World} {B x : Nat} {f : Lf} (h : Leaf w B x f) : w.cell? ⟨f.a, 1, none⟩ = some (.slice (some ⟨f.tb, 0, none⟩) f.ts.length f.cap) := by simp [World.cell?, h.blk]
theorem Leaf.frozen {w : World} {B x : Nat} {f : Lf} (h : Leaf w B x f) (o : Nat) : w.frozen? ⟨f.a, o, none⟩ = false := by simp [World.frozen?, h.blk]
theorem Leaf.at {w : World} {B x : Nat} {f : Lf} (h : Leaf w B x f) {i : Nat} {t : Tb} (hi : f.ts[i]? = some t) : w.cell? ⟨f.tb, i, none⟩ = some (ptr t.p) :=
  OwnP.cell h.row (by rw [List.getElem?_map, hi]; rfl)
theorem Leaf.max {w : World} {B x : Nat} {f : Lf} (h : Leaf w B x f) : f.ts.length ≤ 9223372036854775807 := by have := OwnR.cap h.row; unfold maxLen at this; omega
theorem take_more {α : Type} {l : List α} {i : Nat} {t : α} (hi : l[i]? = some t) : l.take (i + 1) = l.take i ++ [t] := by rw [List.take_add_one, hi]; rfl
theorem get_of_lt {α : Type} {l : List α} {i : Nat} (hi : i < l.length) : ∃ t, l[i]? = some t ∧ t ∈ l := ⟨l[i], List.getElem?_eq_getElem hi, List.getElem_mem hi⟩

theorem size_any (B x : Nat) (f : Lf) (w : World) (hL : Leaf w B x f) (hn : f.es.length ≤ 1000000) :
    Calls Try.prog 68 #[ptr f.a] w fun e w' => e = .returned (.int .i64 (f.es.length : Nat)) ∧ w' = w := by
  have HL : Hid (Leaf w B x f) := hL
  have hc := hL.tabs
  have hmx := hL.max
  have HN : Hid (f.es.length ≤ 1000000) := hn
  have HE : Hid (f.es = tsEs f.ts) := rfl
  generalize hm : f.ts.length = m at hc hmx
  have HM : Hid (f.ts.length = m) := hm
  clear hL hn hm
  go_enter Try.func68, Try.ntmps68
  go_wp2
  go_loopg [3, 5, 11] m (fun q nv tv iv wr => w = wr ∧ ∃ i : Nat, i + q = m ∧ iv = .int .i64 i ∧ nv = .int .i64 ((tsEs (f.ts.take i)).length : Nat))
  case atStart => exact ⟨rfl, 0, by omega, rfl, rfl⟩
  case round =>
    obtain ⟨rfl, i, hi, rfl, rfl⟩ := hrel
    by_cases h8 : (i : Int) < m
    · obtain ⟨t, ht, htm⟩ := get_of_lt (l := f.ts) (i := i) (by have := HM.out; omega)
      have hk := HL.out.at ht
      have hLen := Len_any _ _ _ _ _ _ _ (HL.out.tab t htm)
      have HS : Hid ((tsEs (f.ts.take (i + 1))).length = (tsEs (f.ts.take i)).length + (ents t.z).length) := by show _ = _; rw [take_more ht, tsEs_append, List.length_append, tsEs_one]; rfl
      have hle : (tsEs (f.ts.take (i + 1))).length ≤ 1000000 := by
        have h1 := HN.out
        rw [HE.out, ← List.take_append_drop (i + 1) f.ts, tsEs_append, List.length_append] at h1
        omega
      rw [HS.out] at hle
      generalize (tsEs (f.ts.take i)).length = c at HS hle ⊢
      generalize (ents t.z).length = d at HS hle hLen
      clear ht htm
      go_wp2_with fail
      refine hLen.mono ?_
      rintro e w ⟨rfl, rfl⟩
      go_wp2
      go_roundg (gk - 1)
      case measure => omega
      case rel => exact ⟨rfl, i + 1, by omega, by go_num, by rw [HS.out]; go_num⟩
    · have HT : Hid (f.ts.take i = f.ts) := by show _ = _; rw [List.take_of_length_le (by have := HM.out; omega)]
      rw [HT.out]
      go_wp2
      go_ret
      exact ⟨rfl, rfl⟩
end Go.Proofs.Ytejnmikbbnckeaa
