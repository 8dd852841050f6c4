/- Texts that the others stand on. -/
import Derived.Test.YtnajhjmdpaeelaaGreatDoorG23
import Derived.Maps.AppendAt
import Derived.Deep.RegionHeld3
import Derived.Deep.RegionWith
import Derived.OwnWalk
import Derived.Lib.ConvBytes
import Derived.Laws.OwnMore
import Derived.Laws.CopyRow
namespace Go.Proofs.YtnajhjmdpaeelaaGreatDoor.Cy
open Go.RowKit Go.PlainAid
theorem alloc_below (w : World) (o : Obj) : Below w.heap.size w (w.alloc o) := (Below.refl _ _).alloc (Nat.le_refl _) o
theorem alloc_lt (w : World) (cs : Array Value) (t : TypeId) : w.heap.size < (w.alloc (.cells cs t)).heap.size := (Array.getElem?_eq_some_iff.1 (heap_alloc_new w (.cells cs t))).1
theorem cell_new (w : World) (cs : Array Value) (t : TypeId) (i : Nat) (v : Value) (h : cs[i]? = some v) : (w.alloc (.cells cs t)).cell? ⟨w.heap.size, i, none⟩ = some v := by
  simp only [World.cell?, heap_alloc_new]; exact h
theorem heap_set {w : World} {b o : Nat} {cs : Array Value} {t : TypeId} (h : w.heap[b]? = some (.cells cs t (0, 0))) (v : Value) : (w.setCell ⟨b, o, none⟩ v).heap[b]? = some (.cells (cs.setIfInBounds o v) t (0, 0)) := by
  simp only [World.setCell, Array.getElem?_modify, if_true, h]
  rfl
structure Stay (w w' : World) (M : List Nat) : Prop where
  os : w'.os = w.os
  tape : w'.tape = w.tape
  output : w'.output = w.output
  size : w.heap.size ≤ w'.heap.size
  block : ∀ k, k < w.heap.size → k ∉ M → w'.heap[k]? = w.heap[k]?
theorem Stay.of_below {w w' : World} (h : Below w.heap.size w w') (M : List Nat) : Stay w w' M := ⟨h.os, h.tape, h.output, h.size, fun k hk _ => h.block k hk⟩
theorem Stay.trans {w w1 w2 : World} {M M' : List Nat} (h : Stay w w1 M) (k : Stay w1 w2 M') (hM : ∀ i ∈ M', i ∈ M ∨ w.heap.size ≤ i) : Stay w w2 M :=
  ⟨k.os.trans h.os, k.tape.trans h.tape, k.output.trans h.output, Nat.le_trans h.size k.size, fun i hi hn =>
    (k.block i (Nat.lt_of_lt_of_le hi h.size) (fun hm => (hM i hm).elim hn (fun h1 => by omega))).trans (h.block i hi hn)⟩
theorem Stay.mono {w w' : World} {M M' : List Nat} (h : Stay w w' M) (hM : ∀ i ∈ M, i ∈ M') : Stay w w' M' :=
  ⟨h.os, h.tape, h.output, h.size, fun k hk hn => h.block k hk (fun hm => hn (hM k hm))⟩
theorem Stay.below {w w' : World} {M : List Nat} {B : Nat} (h : Stay w w' M) (hM : ∀ i ∈ M, B ≤ i) (hB : B ≤ w.heap.size) : Below B w w' :=
  ⟨h.os, h.tape, h.output, h.size, fun k hk => h.block k (Nat.lt_of_lt_of_le hk hB) (fun hm => by have := hM k hm; omega)⟩
theorem Stay.set {w : World} {q o : Nat} {v : Value} : Stay w (w.setCell ⟨q, o, none⟩ v) [q] :=
  ⟨rfl, rfl, rfl, by simp [World.setCell], fun k _ h1 => Below.heap_setCell _ _ _ _ (by simpa using h1)⟩
structure Elt (t e : TypeId) (s by8 : Nat) : Prop where
  und : Tryz.prog.underlying t = some (.slice e)
  inf : ∃ i z, Tryz.prog.info? e = some i ∧ i.zero = some z ∧ i.size = s ∧ i.bytes = by8 ∧ z.cells.size = s
  pos : 0 < s
theorem elt_of {t e : TypeId} {s by8 : Nat} {z : Value} (hu : Tryz.prog.underlying t = some (.slice e)) (hi : (Tryz.prog.info? e).map (fun i => (i.zero, i.size, i.bytes)) = some (some z, s, by8)) (hz : z.cells.size = s) (hp : 0 < s) : Elt t e s by8 := by
  obtain ⟨i, h1, h2, h3, h4⟩ := info_parts hi
  exact ⟨hu, ⟨i, z, h1, h2, h3, h4, hz⟩, hp⟩
def OwnR (w : World) (B : Nat) (e : TypeId) (s : Nat) (a : Option Addr) (n cap : Nat) (cs : List Value) : Prop := w.ownsRow B e s (.slice a n cap) n cs
theorem OwnR.nil (w : World) (B : Nat) (e : TypeId) (s : Nat) : OwnR w B e s none 0 0 [] := World.ownsRow_nil w B e s
theorem OwnR.len {w : World} {B : Nat} {e : TypeId} {s : Nat} {a : Option Addr} {n cap : Nat} {cs : List Value} (h : OwnR w B e s a n cap cs) : cs.length = n * s := h.1
theorem OwnR.lt {w : World} {B : Nat} {e : TypeId} {s : Nat} {a : Option Addr} {n cap : Nat} {cs : List Value} (h : OwnR w B e s a n cap cs) {k : Nat} (hk : a.map (·.block) = some k) : B ≤ k ∧ k < w.heap.size ∧ ∃ cur, w.heap[k]? = some (.cells cur e (0, 0)) := by
  rcases h.2 with ⟨h2, h3⟩ | ⟨g, c, cur, h1, h3, h4, h5⟩
  · cases h2; cases hk
  · cases h1
    cases hk
    exact ⟨h3, (Array.getElem?_eq_some_iff.1 h4).1, cur, h4⟩
theorem OwnR.kept {w wn : World} {B : Nat} {e : TypeId} {s : Nat} {a : Option Addr} {n cap : Nat} {cs : List Value} (h : OwnR w B e s a n cap cs) (hb : ∀ k, a.map (·.block) = some k → wn.heap[k]? = w.heap[k]?) : OwnR wn B e s a n cap cs := by
  refine ⟨h.1, ?_⟩
  rcases h.2 with h2 | ⟨g, c, cur, h1, h3, h4, h5⟩
  · exact .inl h2
  · refine .inr ⟨g, c, cur, h1, h3, ?_, h5⟩
    cases h1
    rw [hb g rfl]; exact h4
theorem OwnR.keep {w wn : World} {B : Nat} {e : TypeId} {s : Nat} {a : Option Addr} {n cap : Nat} {cs : List Value} (h : OwnR w B e s a n cap cs) (hb : Below w.heap.size w wn) : OwnR wn B e s a n cap cs :=
  h.kept fun k hk => hb.block k (h.lt hk).2.1
theorem OwnR.low {w : World} {B C : Nat} {e : TypeId} {s : Nat} {a : Option Addr} {n cap : Nat} {cs : List Value} (h : OwnR w B e s a n cap cs) (hC : C ≤ B) : OwnR w C e s a n cap cs := by
  refine ⟨h.1, ?_⟩
  rcases h.2 with h2 | ⟨g, c, cur, h1, h3, h4⟩
  · exact .inl h2
  · exact .inr ⟨g, c, cur, h1, Nat.le_trans hC h3, h4⟩
theorem OwnR.cap {w : World} {B : Nat} {e : TypeId} {s : Nat} {a : Option Addr} {n cap : Nat} {cs : List Value} (h : OwnR w B e s a n cap cs) : n ≤ cap ∧ cap ≤ maxLen := by
  rcases h.2 with ⟨h2, h3⟩ | ⟨g, c, cur, h1, h3, h4, h5, h6, h7⟩
  · cases h2; exact ⟨by omega, by decide⟩
  · cases h1; exact ⟨h5, h6⟩
theorem OwnR.at {w : World} {B : Nat} {e : TypeId} {s : Nat} {a : Option Addr} {n cap : Nat} {cs : List Value} (h : OwnR w B e s a n cap cs) (hn : 0 < n) : ∃ g, a = some ⟨g, 0, none⟩ ∧ ∀ j u, cs[j]? = some u → w.cell? ⟨g, j, none⟩ = some u := by
  rcases h.2 with ⟨h2, h3⟩ | ⟨g, c, cur, h1, h3, h4, h5, h6, h7, h8⟩
  · omega
  · cases h1
    refine ⟨g, rfl, fun j u hu => ?_⟩
    have := World.ownsRow.cells (w := w) h (g := g) rfl j u hu
    rw [add_flat, Nat.zero_add] at this
    exact this
def Goes (w : World) (a a2 : Option Addr) : Prop := a2.map (·.block) = a.map (·.block) ∨ a2.map (·.block) = some w.heap.size
theorem run_append_r (w : World) (B : Nat) {t e : TypeId} {s by8 : Nat} (F : Elt t e s by8) {a : Option Addr} {n cap : Nat} {cs : List Value} (hown : OwnR w B e s a n cap cs) {ad : Addr} {m c : Nat} (news : List Value) (hl : news.length = m * s)
    (hnews : ∀ j u, news[j]? = some u → w.cell? (ad.add j) = some u) (h1 : ∀ u ∈ news, u.oneCell' = true) (hm : 0 < m) (hb : (n + m) * by8 ≤ 140737488355328) (h63 : n + m ≤ maxLen) (hB : B ≤ w.heap.size) (ty : TypeId) :
    ∃ a2 c2 w2, (Builtin.append_ #[t, t] ty #[.slice a n cap, .slice (some ad) m c]).run Tryz.prog w = .ok (.slice a2 (n + m) c2) w2 ∧ OwnR w2 B e s a2 (n + m) c2 (cs ++ news) ∧ w.grownBy w2 (a.map (·.block)) ∧ Goes w a a2 := by
  obtain ⟨i, z, hi, hz0, hz1, hz2, hz3⟩ := F.inf
  obtain ⟨v', w', k1, k2, k3, -, k5⟩ := run_append_own_at (P := Tryz.prog) w B t ty e i z s by8 F.und hi hz0 hz1 hz2 hz3 F.pos (.slice a n cap) n cs hown ad m c news hl hnews h1 h63 hb hB
  have hblk : (Value.slice a n cap).ownBlock = a.map (·.block) := by cases a <;> rfl
  rw [hblk] at k3 k5
  rcases k2.2 with ⟨rfl, h4⟩ | ⟨g2, c2, cur, rfl, h4⟩
  · omega
  · exact ⟨_, _, w', k1, k2, k3, k5⟩
theorem append_r {w : World} {ops : Array Oper} {rest : List Oper} {o : Oper} {ac : Act} {Q : Exit → Act → World → Prop} (hgd : o.guard = none) (s x : Operand) {t e : TypeId} {sz by8 : Nat} (ho : o.op = .call { callee := .builtin .append, args := #[s, x], argTypes := #[t, t] })
    (F : Elt t e sz by8) (B : Nat) {a : Option Addr} {n cap : Nat} {cs : List Value} (hs : ac.eval s = .slice a n cap) (hown : OwnR w B e sz a n cap cs) {ad : Addr} {m c : Nat} (news : List Value) (hx : ac.eval x = .slice (some ad) m c) (hl : news.length = m * sz)
    (hnews : ∀ j u, news[j]? = some u → w.cell? (ad.add j) = some u) (h1 : ∀ u ∈ news, u.oneCell' = true) (hm : 0 < m) (hb : (n + m) * by8 ≤ 140737488355328) (h63 : n + m ≤ maxLen) (hB : B ≤ w.heap.size)
    (h : ∀ a2 n2 c2 w2, n2 = n + m → Hid (OwnR w2 B e sz a2 n2 c2 (cs ++ news)) → Hid (w.grownBy w2 (a.map (·.block))) → Hid (Goes w a a2) → wpList Tryz.prog ops Q rest (ac.put o.dst (.slice a2 n2 c2)) w2) : wpList Tryz.prog ops Q (o :: rest) ac w := by
  obtain ⟨a2, c2, w2, h1, h2, h3, h4⟩ := run_append_r w B F hown (c := c) news hl hnews h1 hm hb h63 hB o.type
  refine wpList_plain hgd fun K hK => ?_
  unfold Oper.wp
  simp [execOp, ho, resolve, invoke, builtin, hs, hx, h1, Result.andThen]
  exact hK _ _ (h a2 _ c2 w2 rfl h2 h3 h4)
theorem OwnR.below {w w2 : World} {B : Nat} {e : TypeId} {s : Nat} {a : Option Addr} {n cap : Nat} {cs : List Value} (h : OwnR w B e s a n cap cs) (hg : w.grownBy w2 (a.map (·.block))) (hB : B ≤ w.heap.size) : Below B w w2 :=
  (Below.refl B w).grown hg hB (fun _ hk => (h.lt hk).1)
theorem OwnR.grown {w w2 : World} {B : Nat} {e : TypeId} {s : Nat} {a : Option Addr} {n cap : Nat} {cs : List Value} {row : Option Nat} (h : OwnR w B e s a n cap cs) (hg : w.grownBy w2 row) (hne : ∀ k, a.map (·.block) = some k → row ≠ some k) : OwnR w2 B e s a n cap cs :=
  h.kept fun k hk => hg.block k (h.lt hk).2.1 (fun e => hne k hk e.symm)
theorem step_append_r {w : World} {ops : Array Oper} {o : Oper} {ac : Act} {K : Act → World → Prop} {Q : Exit → Act → World → Prop} {E : Prop} (hgd : o.guard = none) (s x : Operand) {t e : TypeId} {sz by8 : Nat} (ho : o.op = .call { callee := .builtin .append, args := #[s, x], argTypes := #[t, t] })
    (F : Elt t e sz by8) (B : Nat) {a : Option Addr} {n cap : Nat} {cs : List Value} (hs : ac.eval s = .slice a n cap) (hown : OwnR w B e sz a n cap cs) {ad : Addr} {m c : Nat} (news : List Value) (hx : ac.eval x = .slice (some ad) m c) (hl : news.length = m * sz)
    (hnews : ∀ j u, news[j]? = some u → w.cell? (ad.add j) = some u) (h1 : ∀ u ∈ news, u.oneCell' = true) (hm : 0 < m) (hb : (n + m) * by8 ≤ 140737488355328) (h63 : n + m ≤ maxLen) (hB : B ≤ w.heap.size)
    (h : ∀ a2 n2 c2 w2, n2 = n + m → Hid (OwnR w2 B e sz a2 n2 c2 (cs ++ news)) → Hid (w.grownBy w2 (a.map (·.block))) → Hid (Goes w a a2) → K (ac.put o.dst (.slice a2 n2 c2)) w2) : if Region.wanted o (yielded ops ac.tmps) = true then Oper.wp Tryz.prog o ac w K Q else E := by
  have hw : Region.wanted o (yielded ops ac.tmps) = true := by simp [Region.wanted, hgd]
  rw [if_pos hw]
  obtain ⟨a2, c2, w2, k1, k2, k3, k4⟩ := run_append_r w B F hown (c := c) news hl hnews h1 hm hb h63 hB o.type
  unfold Oper.wp
  simp [execOp, ho, resolve, invoke, builtin, hs, hx, k1, Result.andThen]
  exact h a2 _ c2 w2 rfl k2 k3 k4
/-- A slice that reads the texts ls. -/
structure RdS (w : World) (a : Option Addr) (n : Nat) (ls : List ByteArray) : Prop where
  len : ls.length = n
  max : n ≤ maxLen
  cell : ∀ j, j < n → ∃ b off, a = some ⟨b, off, none⟩ ∧ w.cell? ⟨b, off + j, none⟩ = some (.string (ls.getD j ByteArray.empty))
theorem RdS.keep {w wn : World} {a : Option Addr} {n : Nat} {ls : List ByteArray} (h : RdS w a n ls) (hb : Below w.heap.size w wn) : RdS wn a n ls :=
  ⟨h.len, h.max, fun j hj => by
    obtain ⟨b, off, e, hc⟩ := h.cell j hj
    exact ⟨b, off, e, by rw [hb.cell (p := ⟨b, off + j, none⟩) (World.block_lt_of_cell? _ _ hc)]; exact hc⟩⟩
/-- A row of texts of the call's own. -/
def OwnS (w : World) (B : Nat) (a : Option Addr) (n cap : Nat) (ls : List ByteArray) : Prop := w.ownsRow B 9 1 (.slice a n cap) n (ls.map Value.string)
theorem OwnS.len {w : World} {B : Nat} {a : Option Addr} {n cap : Nat} {ls : List ByteArray} (h : OwnS w B a n cap ls) : ls.length = n := by
  have := h.1; simpa using this
theorem OwnS.keep {w wn : World} {B : Nat} {a : Option Addr} {n cap : Nat} {l : List ByteArray} (h : OwnS w B a n cap l) (hb : Below w.heap.size w wn) : OwnS wn B a n cap l := by
  refine ⟨h.1, ?_⟩
  rcases h.2 with h2 | ⟨g, c, cur, h1, h3, h4, h5⟩
  · exact .inl h2
  · refine .inr ⟨g, c, cur, h1, h3, ?_, h5⟩
    rw [hb.block g (Array.getElem?_eq_some_iff.1 h4).1]; exact h4
theorem OwnS.rd {w : World} {B : Nat} {a : Option Addr} {n cap : Nat} {ls : List ByteArray} (h : OwnS w B a n cap ls) : RdS w a n ls := by
  have hl := h.len
  rcases h.2 with ⟨h2, h3⟩ | ⟨g, c, cur, h1, h3, h4, h5, h6, h7, h8⟩
  · cases h2
    exact RdS.mk hl (by rw [h3]; decide) (fun j hj => absurd hj (by omega))
  · cases h1
    refine RdS.mk hl (Nat.le_trans h5 h6) (fun j hj => ⟨g, 0, rfl, ?_⟩)
    have := h.cells (g := g) rfl j (.string (ls.getD j ByteArray.empty)) (by
      simp only [List.getElem?_map, List.getD_eq_getElem?_getD]
      rw [List.getElem?_eq_getElem (by omega)]; rfl)
    rw [add_flat] at this
    rw [Nat.zero_add] at this ⊢
    exact this
theorem Tryz.info9 : (Tryz.prog.info? 9).map (fun i => (i.zero, i.size, i.bytes)) = some (some (.string ⟨#[]⟩), 1, 16) := by kernel_rfl
/-- A row of bytes in block g, cell by cell; a mark behind its end is let in. -/
structure Row (w : World) (B g n c : Nat) (l : List UInt8) : Prop where
  low : B ≤ g
  len : l.length = n
  fit : n ≤ c
  max : c ≤ maxLen
  cell : ∀ j, j < n → w.cell? ⟨g, j, none⟩ = some (.int .u8 ((l.getD j 0).toNat : Nat))
  free : ∀ j, j < c → w.frozen? ⟨g, j, none⟩ = false
theorem Row.set {w : World} {B g n c : Nat} {l : List UInt8} (h : Row w B g n c l) (i : Nat) (hi : i < n) (b : UInt8) (x : Int) (hx : x = (b.toNat : Nat)) : Row (w.setCell ⟨g, i, none⟩ (.int .u8 x)) B g n c (l.set i b) := by
  refine ⟨h.low, by rw [List.length_set]; exact h.len, h.fit, h.max, fun j hj => ?_, fun j hj => by rw [World.frozen?_setCell]; exact h.free j hj⟩
  by_cases e : j = i
  · subst e
    rw [World.cell?_setCell_same _ _ _ (h.cell j hj), hx, List.getD_eq_getElem?_getD, List.getElem?_set_self (by rw [h.len]; exact hj)]; rfl
  · rw [World.cell?_setCell_other _ _ _ _ (by intro q; cases q; exact e rfl), h.cell j hj, List.getD_eq_getElem?_getD, List.getD_eq_getElem?_getD, List.getElem?_set_ne (fun q => e q.symm)]
theorem Row.rd {w : World} {B g n c : Nat} {l : List UInt8} (h : Row w B g n c l) : Rd w (some ⟨g, 0, none⟩) n c l :=
  ⟨h.len, h.fit, h.max, (fun e => (by cases e)), fun j hj => ⟨g, 0, rfl, by rw [Nat.zero_add]; exact h.cell j hj⟩⟩
/-- []byte(s). -/
theorem conv_row (w : World) (s : ByteArray) (hs : s.size ≤ maxLen) :
    ∃ c wn, (convert 9 82 (.string s)).run Tryz.prog w = .ok (.slice (some ⟨w.heap.size, 0, none⟩) s.size c) wn ∧ Below w.heap.size w wn ∧ w.heap.size < wn.heap.size ∧ Row wn w.heap.size w.heap.size s.size c (lst s) := by
  refine ⟨_, _, Lib.run_convert_string_bytes (P := Tryz.prog) w 9 82 5 s Tryz.underlying9 Tryz.underlying82 Tryz.underlying5, ?_, by rw [Lib.bytesWorld_size]; omega, ?_⟩
  · exact ⟨rfl, rfl, rfl, by rw [Lib.bytesWorld_size]; omega, fun k hk => Lib.bytesWorld_at_old w 5 s k hk⟩
  · have hsz : (Lib.bytesCells w 5 s).size = s.size + (grownCap w s.size 0 5 - s.size) := by simp [Lib.bytesCells]
    have hge := grownCap_ge w s.size 0 5
    refine ⟨Nat.le_refl _, len_lst s, hge, grownCap_le_maxLen w s.size 0 5 hs, fun j hj => Lib.bytesWorld_cell w 5 s j hj, fun j hj => ?_⟩
    have hat := Lib.bytesWorld_at_new w 5 s
    simp only [World.frozen?, hat]
    simp; omega
def lowB (x : UInt8) : UInt8 := if 65 ≤ x.toNat ∧ x.toNat ≤ 90 then UInt8.ofNat (x.toNat + 32) else x
def low (s : ByteArray) : ByteArray := bs ((lst s).map lowB)
theorem low_size (s : ByteArray) : (low s).size = s.size := by rw [low, size_bs, List.length_map, len_lst]
theorem lowB_yes (x : UInt8) (h : 65 ≤ x.toNat) (h2 : x.toNat ≤ 90) : ((lowB x).toNat : Int) = (x.toNat : Int) + 32 := by
  rw [lowB, if_pos ⟨h, h2⟩, UInt8.toNat_ofNat', Nat.mod_eq_of_lt (by omega)]; rfl
theorem lowB_no (x : UInt8) (h : ¬ (65 ≤ x.toNat ∧ x.toNat ≤ 90)) : lowB x = x := by rw [lowB, if_neg h]
/-- The first k bytes small. -/
def lowTo (k : Nat) (l : List UInt8) : List UInt8 := (l.take k).map lowB ++ l.drop k
theorem lowTo_zero (l : List UInt8) : lowTo 0 l = l := by simp [lowTo]
theorem lowTo_at (k : Nat) (l : List UInt8) : (lowTo k l).getD k 0 = l.getD k 0 := by
  unfold lowTo
  rw [List.getD_eq_getElem?_getD, List.getD_eq_getElem?_getD]
  by_cases h : k < l.length
  · rw [List.getElem?_append_right (by simp; omega)]
    simp [List.length_take, Nat.min_eq_left (Nat.le_of_lt h)]
  · rw [List.getElem?_eq_none (by simp; omega), List.getElem?_eq_none (by omega)]
theorem lowTo_up (k : Nat) (l : List UInt8) (h : k < l.length) : lowTo (k + 1) l = (lowTo k l).set k (lowB (l.getD k 0)) := by
  unfold lowTo
  have e : ((l.take k).map lowB).length = k := by rw [List.length_map, List.length_take, Nat.min_eq_left (Nat.le_of_lt h)]
  rw [List.set_append_right _ _ (by rw [e]; exact Nat.le_refl _), e, Nat.sub_self, List.drop_eq_getElem_cons h, List.take_add_one, List.getElem?_eq_getElem h, List.map_append, List.append_assoc, List.getD_eq_getElem?_getD, List.getElem?_eq_getElem h]
  rfl
theorem lowTo_same (k : Nat) (l : List UInt8) (h : k < l.length) (he : lowB (l.getD k 0) = l.getD k 0) : lowTo (k + 1) l = lowTo k l := by
  rw [lowTo_up k l h, he]
  have e := lowTo_at k l
  rw [← e]
  have hl : k < (lowTo k l).length := by unfold lowTo; simp; omega
  rw [List.getD_eq_getElem?_getD, List.getElem?_eq_getElem hl]
  exact List.set_getElem_self hl
theorem lowTo_all (k : Nat) (l : List UInt8) (h : l.length ≤ k) : lowTo k l = l.map lowB := by
  unfold lowTo; rw [List.take_of_length_le h, List.drop_eq_nil_of_le h, List.append_nil]
set_option maxRecDepth 100000 in
set_option maxHeartbeats 4000000 in
theorem Lower_any (s : ByteArray) (w : World) (hs : s.size ≤ maxLen) :
    Calls Tryz.prog 88 #[.string s] w fun e w' => e = .returned (.string (low s)) ∧ Below w.heap.size w w' := by
  obtain ⟨cE, W2, hcv, hB2, hlt, hRow⟩ := conv_row w s hs
  obtain ⟨l, hl⟩ : ∃ l, lst s = l := ⟨_, rfl⟩
  have HE : Hid (low s = bs (l.map lowB)) := by show _ = _; rw [low, hl]
  have HN : Hid (l.length = s.size) := by show _ = _; rw [← hl]; exact len_lst s
  have HB2 : Hid (Below w.heap.size w W2) := hB2
  have HRow : Hid (Row W2 w.heap.size w.heap.size s.size cE (lowTo 0 l)) := by show Row _ _ _ _ _ _; rw [lowTo_zero, ← hl]; exact hRow
  obtain ⟨n, hn⟩ : ∃ n, s.size = n := ⟨_, rfl⟩
  rw [hn] at hcv HN HRow hs
  have hfits : cE ≤ maxLen := hRow.max
  have hfit : n ≤ cE := by rw [← hn]; exact hRow.fit
  have hm : n ≤ 9223372036854775807 := hs
  obtain ⟨gx, hgx⟩ : ∃ g, w.heap.size = g := ⟨_, rfl⟩
  rw [hgx] at hcv HRow
  have HG : Hid (w.heap.size ≤ gx) := by show _ ≤ _; omega
  clear hB2 hlt hRow hl hn hgx hs
  go_enter Tryz.func88, Tryz.ntmps88
  go_wp2
  go_loopg [10] n (fun g iv wr => ∃ k : Nat, iv = .int .i64 k ∧ k + g = n ∧ Hid (Row wr gx gx n cE (lowTo k l)) ∧ Hid (Below w.heap.size w wr))
  case atStart => exact ⟨0, rfl, by omega, HRow, HB2⟩
  case round =>
    obtain ⟨k, rfl, hk, HR, HB⟩ := hrel
    by_cases h1 : (k : Int) < n
    · have hkn : k < n := by omega
      have hcell := HR.out.cell k hkn
      rw [lowTo_at] at hcell
      have hfr := HR.out.free k (by omega)
      have hU : Hid (65 ≤ (l.getD k 0).toNat ∧ (l.getD k 0).toNat ≤ 90 → Row (wr.setCell ⟨gx, k, none⟩ (.int .u8 (((l.getD k 0).toNat : Int) + 32))) gx gx n cE (lowTo (k + 1) l)) := fun hx => by
        rw [lowTo_up k l (by rw [HN.out]; exact hkn)]
        exact HR.out.set k hkn _ _ (lowB_yes _ hx.1 hx.2).symm
      have hS : Hid (¬ (65 ≤ (l.getD k 0).toNat ∧ (l.getD k 0).toNat ≤ 90) → Row wr gx gx n cE (lowTo (k + 1) l)) := fun hx => by
        rw [lowTo_same k l (by rw [HN.out]; exact hkn) (lowB_no _ hx)]
        exact HR.out
      have hx255 := (l.getD k 0).toNat_lt
      obtain ⟨X, hX⟩ : ∃ X, (l.getD k 0).toNat = X := ⟨_, rfl⟩
      rw [hX] at hcell hU hS hx255
      clear hX
      by_cases h65 : (65 : Int) ≤ X
      · by_cases h90 : (X : Int) ≤ 90
        · have hRn := hU.out ⟨by omega, by omega⟩
          have HBn : Hid (Below w.heap.size w (wr.setCell ⟨gx, k, none⟩ (.int .u8 ((X : Int) + 32)))) := HB.out.setCell HG.out _
          have hw1 : IntKind.u8.wrap ((X : Int) - 65) = (X : Int) - 65 := by rw [IntKind.wrap_u8]; omega
          have hw2 : IntKind.u8.wrap ((X : Int) - 65 + 97) = (X : Int) + 32 := by rw [IntKind.wrap_u8]; omega
          have HRn : Hid (Row (wr.setCell ⟨gx, k, none⟩ (.int .u8 ((X : Int) + 32))) gx gx n cE (lowTo (k + 1) l)) := hRn
          clear hRn hU hS
          go_wp2
          go_roundg (gk - 1)
          case measure => omega
          case rel => exact ⟨k + 1, by go_num, by omega, HRn, HBn⟩
        · have HRn : Hid (Row wr gx gx n cE (lowTo (k + 1) l)) := hS.out (by omega)
          clear hU hS
          go_wp2
          go_roundg (gk - 1)
          case measure => omega
          case rel => exact ⟨k + 1, by go_num, by omega, HRn, HB⟩
      · have HRn : Hid (Row wr gx gx n cE (lowTo (k + 1) l)) := hS.out (by omega)
        clear hU hS
        go_wp2
        go_roundg (gk - 1)
        case measure => omega
        case rel => exact ⟨k + 1, by go_num, by omega, HRn, HB⟩
    · have hk2 : k = n := by omega
      subst hk2
      have hx := HR.out.rd.text
      rw [lowTo_all k l (by rw [HN.out]; omega), ← HE.out] at hx
      go_wp2
      go_ret
      exact ⟨rfl, HB.out⟩
/-- A command. -/
structure Cm where
  nm : ByteArray
  lo : Int
  hi : Int
  wr : Bool
  gr : Int
def Cm.cs (c : Cm) : List Value := [.string c.nm, .int .i64 c.lo, .int .i64 c.hi, .bool c.wr, .int .i64 c.gr]
def Cm.v (c : Cm) : Value := .agg #[.string c.nm, .int .i64 c.lo, .int .i64 c.hi, .bool c.wr, .int .i64 c.gr]
def Cm.z : Cm := ⟨⟨#[]⟩, 0, 0, false, 0⟩
def ccells (l : List Cm) : List Value := l.flatMap Cm.cs
theorem ccells_len (l : List Cm) : (ccells l).length = l.length * 5 := by
  unfold ccells
  induction l with
  | nil => rfl
  | cons e l ih => rw [List.flatMap_cons, List.length_append, ih]; simp [Cm.cs]; omega
theorem ccells_append (l r : List Cm) : ccells (l ++ r) = ccells l ++ ccells r := List.flatMap_append
theorem ccells_get : ∀ (l : List Cm) (j : Nat) (e : Cm), l[j]? = some e → (ccells l)[j * 5]? = some (.string e.nm) ∧ (ccells l)[j * 5 + 1]? = some (.int .i64 e.lo) ∧ (ccells l)[j * 5 + 2]? = some (.int .i64 e.hi) ∧ (ccells l)[j * 5 + 3]? = some (.bool e.wr) ∧ (ccells l)[j * 5 + 4]? = some (.int .i64 e.gr)
  | [], _, _, h => by simp at h
  | x :: l, 0, e, h => by
    simp at h; subst h
    exact ⟨rfl, rfl, rfl, rfl, rfl⟩
  | x :: l, j + 1, e, h => by
    have ih := ccells_get l j e (by simpa using h)
    have e1 : ccells (x :: l) = .string x.nm :: .int .i64 x.lo :: .int .i64 x.hi :: .bool x.wr :: .int .i64 x.gr :: ccells l := rfl
    rw [e1, show (j + 1) * 5 = j * 5 + 1 + 1 + 1 + 1 + 1 by omega]
    exact ih
theorem ccells_one (l : List Cm) : ∀ u ∈ ccells l, u.oneCell' = true := by
  intro u hu
  obtain ⟨e, -, h⟩ := List.mem_flatMap.1 hu
  simp only [Cm.cs, List.mem_cons, List.not_mem_nil, or_false] at h
  rcases h with rfl | rfl | rfl | rfl | rfl <;> rfl
/-- A row of the call's own, in a block of any kind. -/
def OwnT (w : World) (B s : Nat) (a : Option Addr) (n cap : Nat) (cs : List Value) : Prop :=
  cs.length = n * s ∧ ((a = none ∧ n = 0 ∧ cap = 0) ∨ ∃ g cur tg, a = some ⟨g, 0, none⟩ ∧ B ≤ g ∧ w.heap[g]? = some (.cells cur tg (0, 0)) ∧ n ≤ cap ∧ cap ≤ maxLen ∧ cur.size = cap * s ∧ cur.toList.take (n * s) = cs)
theorem OwnT.nil (w : World) (B s : Nat) : OwnT w B s none 0 0 [] := ⟨by simp, .inl ⟨rfl, rfl, rfl⟩⟩
theorem OwnT.lt {w : World} {B s : Nat} {a : Option Addr} {n cap : Nat} {cs : List Value} (h : OwnT w B s a n cap cs) {k : Nat} (hk : a.map (·.block) = some k) : B ≤ k ∧ k < w.heap.size := by
  rcases h.2 with ⟨rfl, -⟩ | ⟨g, cur, tg, rfl, h3, h4, -⟩
  · cases hk
  · cases hk
    exact ⟨h3, (Array.getElem?_eq_some_iff.1 h4).1⟩
theorem OwnT.kept {w wn : World} {B s : Nat} {a : Option Addr} {n cap : Nat} {cs : List Value} (h : OwnT w B s a n cap cs) (hb : ∀ k, a.map (·.block) = some k → wn.heap[k]? = w.heap[k]?) : OwnT wn B s a n cap cs := by
  refine ⟨h.1, ?_⟩
  rcases h.2 with h2 | ⟨g, cur, tg, rfl, h3, h4, h5⟩
  · exact .inl h2
  · exact .inr ⟨g, cur, tg, rfl, h3, by rw [hb g rfl]; exact h4, h5⟩
theorem OwnT.keep {w wn : World} {B s : Nat} {a : Option Addr} {n cap : Nat} {cs : List Value} (h : OwnT w B s a n cap cs) (hb : Below w.heap.size w wn) : OwnT wn B s a n cap cs :=
  h.kept fun _ hk => hb.block _ (h.lt hk).2
theorem OwnT.low {w : World} {B C s : Nat} {a : Option Addr} {n cap : Nat} {cs : List Value} (h : OwnT w B s a n cap cs) (hC : C ≤ B) : OwnT w C s a n cap cs := by
  refine ⟨h.1, ?_⟩
  rcases h.2 with h2 | ⟨g, cur, tg, h1, h3, h4⟩
  · exact .inl h2
  · exact .inr ⟨g, cur, tg, h1, Nat.le_trans hC h3, h4⟩
theorem OwnT.cap {w : World} {B s : Nat} {a : Option Addr} {n cap : Nat} {cs : List Value} (h : OwnT w B s a n cap cs) : n ≤ cap ∧ cap ≤ maxLen := by
  rcases h.2 with ⟨-, h2, h3⟩ | ⟨g, cur, tg, h1, h3, h4, h5, h6, h7⟩
  · exact ⟨by omega, by rw [h3]; decide⟩
  · exact ⟨h5, h6⟩
theorem OwnT.at {w : World} {B s : Nat} {a : Option Addr} {n cap : Nat} {cs : List Value} (h : OwnT w B s a n cap cs) (hn : 0 < n) : ∃ g, a = some ⟨g, 0, none⟩ ∧ ∀ j u, cs[j]? = some u → w.cell? ⟨g, j, none⟩ = some u := by
  rcases h.2 with ⟨-, h2, -⟩ | ⟨g, cur, tg, rfl, h3, h4, h5, h6, h7, h8⟩
  · omega
  · refine ⟨g, rfl, fun j u hu => ?_⟩
    rw [← h8, List.getElem?_take] at hu
    split at hu
    · rw [cell_of_row w g j cur tg (0, 0) h4]; simpa using hu
    · cases hu
/-- What is cut off at its end stays owned. -/
theorem OwnT.cut {w : World} {B s : Nat} {a : Option Addr} {n cap : Nat} {cs : List Value} (h : OwnT w B s a n cap cs) {k : Nat} (hk : k ≤ n) : OwnT w B s a k cap (cs.take (k * s)) := by
  have hks : k * s ≤ n * s := Nat.mul_le_mul_right _ hk
  refine ⟨by rw [List.length_take, h.1]; omega, ?_⟩
  rcases h.2 with ⟨h1, h2, h3⟩ | ⟨g, cur, tg, h1, h3, h4, h5, h6, h7, h8⟩
  · exact .inl ⟨h1, by omega, h3⟩
  · exact .inr ⟨g, cur, tg, h1, h3, h4, by omega, h6, h7, by rw [← h8, List.take_take, Nat.min_eq_left hks]⟩
theorem OwnT.below {w w2 : World} {B s : Nat} {a : Option Addr} {n cap : Nat} {cs : List Value} (h : OwnT w B s a n cap cs) (hg : w.grownBy w2 (a.map (·.block))) (hB : B ≤ w.heap.size) : Below B w w2 :=
  (Below.refl B w).grown hg hB (fun _ hk => (h.lt hk).1)
set_option maxRecDepth 20000 in
theorem run_append_t (w : World) (B : Nat) {t e : TypeId} {s by8 : Nat} (F : Elt t e s by8) {a : Option Addr} {n cap : Nat} {cs : List Value} (hown : OwnT w B s a n cap cs) {xa : Option Addr} {m c : Nat} (news : List Value) (hl : news.length = m * s)
    (hx : xa = none → m = 0 ∧ c = 0) (hnews : ∀ ad, xa = some ad → ∀ j u, news[j]? = some u → w.cell? (ad.add j) = some u) (h1 : ∀ u ∈ news, u.oneCell' = true) (hb : (n + m) * by8 ≤ 140737488355328) (h63 : n + m ≤ maxLen) (hB : B ≤ w.heap.size) (ty : TypeId) :
    ∃ a2 c2 w2, (Builtin.append_ #[t, t] ty #[.slice a n cap, .slice xa m c]).run Tryz.prog w = .ok (.slice a2 (n + m) c2) w2 ∧ OwnT w2 B s a2 (n + m) c2 (cs ++ news) ∧ w.grownBy w2 (a.map (·.block)) := by
  obtain ⟨i, z, hi, hz, hsz, hby, hzs⟩ := F.inf
  have ht := F.und
  subst hsz
  subst hby
  have hsmall : n + m ≤ 9223372036854775807 := by simp only [maxLen] at h63; omega
  have hlen : (cs ++ news).length = (n + m) * i.size := by rw [List.length_append, hown.1, hl, Nat.add_mul]
  have grown : ∀ (old : Nat), old < n + m → ∀ (row : Option Nat),
      OwnT (w.drew.alloc (.cells (cs.toArray ++ news.toArray ++ Builtin.zeroCells z.cells (grownCap w (n + m) old e - (n + m))) e)) B i.size
        (some ⟨w.heap.size, 0, none⟩) (n + m) (grownCap w (n + m) old e) (cs ++ news) ∧
      w.grownBy (w.drew.alloc (.cells (cs.toArray ++ news.toArray ++ Builtin.zeroCells z.cells (grownCap w (n + m) old e - (n + m))) e)) row := by
    intro old ho row
    have hge := grownCap_ge w (n + m) old e
    have hcm : grownCap w (n + m) old e ≤ maxLen := grownCap_le_maxLen w (n + m) old e h63
    refine ⟨⟨hlen, .inr ⟨w.heap.size, _, e, rfl, hB, heap_alloc_new w.drew _, hge, hcm, ?_, ?_⟩⟩, ⟨rfl, rfl, rfl, by simp, fun k hk h => (World.grownBy_alloc w.drew _ row).block k hk h⟩⟩
    · simp only [Array.size_append, List.size_toArray, size_zeroCells, hzs, hown.1, hl, ← Nat.add_mul]
      congr 1
      omega
    · simp only [Array.toList_append, List.append_assoc]
      rw [← List.append_assoc, ← hlen]
      exact List.take_left
  by_cases hm : m = 0
  · subst hm
    have hn : news = [] := List.eq_nil_of_length_eq_zero (by simpa using hl)
    subst hn
    have hcap := hown.cap
    rcases hown.2 with ⟨rfl, rfl, rfl⟩ | ⟨g, cur, tg, rfl, hr⟩
    · refine ⟨none, 0, w, ?_, ?_, ⟨rfl, rfl, rfl, Nat.le_refl _, fun _ _ _ => rfl⟩⟩
      · cases xa with
        | none => obtain ⟨-, rfl⟩ := hx rfl; simp [Builtin.append_, run_underlying ht, sizeOf, typeInfo, hi, Builtin.lenOf, Builtin.firstCells]
        | some ad => simp [Builtin.append_, run_underlying ht, sizeOf, typeInfo, hi, Builtin.lenOf, Builtin.firstCells, loadCells, loadCellsFrom]
      · rw [List.append_nil]; exact hown
    · refine ⟨_, _, w, ?_, by rw [List.append_nil]; exact hown, ⟨rfl, rfl, rfl, Nat.le_refl _, fun _ _ _ => rfl⟩⟩
      cases xa with
      | none => obtain ⟨-, rfl⟩ := hx rfl; simp [Builtin.append_, run_underlying ht, sizeOf, typeInfo, hi, Builtin.lenOf, Builtin.firstCells, hcap.1, storeCells]
      | some ad => simp [Builtin.append_, run_underlying ht, sizeOf, typeInfo, hi, Builtin.lenOf, Builtin.firstCells, hcap.1, storeCells, loadCells, loadCellsFrom]
  · cases xa with
    | none => exact absurd (hx rfl).1 hm
    | some ad =>
      have hnews := hnews ad rfl
      rcases hown.2 with ⟨rfl, rfl, rfl⟩ | ⟨g, cur, tg, rfl, hbg, hg, hnc, hcm, hcs, htake⟩
      · have hx : cs = [] := List.eq_nil_of_length_eq_zero (by simpa using hown.1)
        subst hx
        have hr := run_append_nil (P := Tryz.prog) w t ty e i z ht hi hz ad m c news hl hnews (by omega) (by omega) (by have hb := hb; simp only [Nat.zero_add] at hb; omega)
        have hgr := grown 0 (by omega) none
        simp only [Nat.zero_add, List.nil_append, Array.empty_append] at hgr ⊢
        exact ⟨_, _, _, hr, hgr.1, hgr.2⟩
      · by_cases hroom : n + m ≤ cap
        · have hfit : n * i.size + news.length ≤ cur.size := by rw [hl, hcs, ← Nat.add_mul]; exact Nat.mul_le_mul_right _ hroom
          have hfc := run_firstCells_some (P := Tryz.prog) w i.size m ad m c news hl hnews
          have hst := run_storeCells_at Tryz.prog g (n * i.size) tg news 0 cur w hg (by simpa using hfit) h1
          simp only [Nat.add_zero] at hst
          have hr : (Builtin.append_ #[t, t] ty #[.slice (some ⟨g, 0, none⟩) n cap, .slice (some ad) m c]).run Tryz.prog w = .ok (.slice (some ⟨g, 0, none⟩) (n + m) cap) (w.setRow g (cur.toList.take (n * i.size) ++ news ++ cur.toList.drop (n * i.size + news.length)).toArray) := by
            simp [Builtin.append_, run_underlying ht, sizeOf, typeInfo, hi, Builtin.lenOf, hroom, hfc, Addr.add_lit, hst]
          refine ⟨_, _, _, hr, ⟨hlen, .inr ⟨g, _, tg, rfl, hbg, setRow_heap w g cur _ tg _ hg, hroom, hcm, ?_, ?_⟩⟩, ⟨rfl, rfl, rfl, by simp, fun k _ hk => setRow_other w g k _ (fun e => hk (by simp [e]))⟩⟩
          · simp only [List.size_toArray, List.length_append, List.length_take, List.length_drop, Array.length_toList]
            omega
          · rw [htake, ← hlen]
            exact List.take_left
        · obtain ⟨g', e1, holds⟩ : ∃ g', some (⟨g, 0, none⟩ : Addr) = some ⟨g', 0, none⟩ ∧ ∀ j u, cs[j]? = some u → w.cell? ((⟨g', 0, none⟩ : Addr).add j) = some u := by
            refine ⟨g, rfl, fun j u hu => ?_⟩
            rw [← htake, List.getElem?_take] at hu
            split at hu
            · rw [add_flat, Nat.zero_add, cell_of_row w g j cur tg (0, 0) hg]; simpa using hu
            · cases hu
          cases e1
          have hr := run_append_grow (P := Tryz.prog) w t ty e i z ht hi hz ⟨g, 0, none⟩ n cap cs hown.1 holds ad m c news hl hnews (by omega) (by omega) (growslice_fits (by omega) hb)
          have hgr := grown cap (by omega) (some g)
          exact ⟨_, _, _, hr, hgr.1, hgr.2⟩
/-- l = append(l, ..). -/
theorem append_t {w : World} {ops : Array Oper} {rest : List Oper} {o : Oper} {ac : Act} {Q : Exit → Act → World → Prop} (hgd : o.guard = none) (s x : Operand) {t e : TypeId} {sz by8 : Nat} (ho : o.op = .call { callee := .builtin .append, args := #[s, x], argTypes := #[t, t] })
    (F : Elt t e sz by8) (B : Nat) {a : Option Addr} {n cap : Nat} {cs : List Value} (hs : ac.eval s = .slice a n cap) (hown : OwnT w B sz a n cap cs) {xa : Option Addr} {m c : Nat} (news : List Value) (hx : ac.eval x = .slice xa m c) (hl : news.length = m * sz)
    (hxn : xa = none → m = 0 ∧ c = 0) (hnews : ∀ ad, xa = some ad → ∀ j u, news[j]? = some u → w.cell? (ad.add j) = some u) (h1 : ∀ u ∈ news, u.oneCell' = true) (hb : (n + m) * by8 ≤ 140737488355328) (h63 : n + m ≤ maxLen) (hB : B ≤ w.heap.size)
    (h : ∀ a2 n2 c2 w2, n2 = n + m → Hid (OwnT w2 B sz a2 n2 c2 (cs ++ news)) → Hid (Below B w w2) → wpList Tryz.prog ops Q rest (ac.put o.dst (.slice a2 n2 c2)) w2) : wpList Tryz.prog ops Q (o :: rest) ac w := by
  obtain ⟨a2, c2, w2, k1, k2, k3⟩ := run_append_t w B F hown (c := c) news hl hxn hnews h1 hb h63 hB o.type
  refine wpList_plain hgd fun K hK => ?_
  unfold Oper.wp
  simp [execOp, ho, resolve, invoke, builtin, hs, hx, k1, Result.andThen]
  exact hK _ _ (h a2 _ c2 w2 rfl k2 (hown.below k3 hB))
/-- A row of commands. -/
abbrev OwnC (w : World) (B : Nat) (a : Option Addr) (n c : Nat) (l : List Cm) : Prop := OwnT w B 5 a n c (ccells l)
theorem OwnC.len {w : World} {B : Nat} {a : Option Addr} {n c : Nat} {l : List Cm} (h : OwnC w B a n c l) : l.length = n := by have := h.1; rw [ccells_len] at this; omega
theorem OwnC.cells {w : World} {B : Nat} {a : Option Addr} {n c : Nat} {l : List Cm} (h : OwnC w B a n c l) {j : Nat} {e : Cm} (hj : l[j]? = some e) : ∃ g, a = some ⟨g, 0, none⟩ ∧ w.cell? ⟨g, j * 5, none⟩ = some (.string e.nm) ∧ w.cell? ⟨g, j * 5 + 1, none⟩ = some (.int .i64 e.lo) ∧ w.cell? ⟨g, j * 5 + 2, none⟩ = some (.int .i64 e.hi) ∧ w.cell? ⟨g, j * 5 + 3, none⟩ = some (.bool e.wr) ∧ w.cell? ⟨g, j * 5 + 4, none⟩ = some (.int .i64 e.gr) := by
  have hl := OwnC.len h
  have hj' : j < l.length := (List.getElem?_eq_some_iff.1 hj).1
  obtain ⟨g, e1, h2⟩ := OwnT.at h (by omega)
  obtain ⟨k1, k2, k3, k4, k5⟩ := ccells_get l j e hj
  exact ⟨g, e1, h2 _ _ k1, h2 _ _ k2, h2 _ _ k3, h2 _ _ k4, h2 _ _ k5⟩
theorem Tryz.infoCmd : (Tryz.prog.info? 87).map (fun i => (i.zero, i.size, i.bytes)) = some (some (.agg #[.string ⟨#[]⟩, .int .i64 0, .int .i64 0, .bool false, .int .i64 0]), 5, 48) := by kernel_rfl
theorem eltC : Elt 167 87 5 48 := elt_of Tryz.underlying167 Tryz.infoCmd rfl (by decide)
def cmStrings : List Cm := [⟨⟨#[103, 101, 116]⟩, 2, 2, false, 1⟩, ⟨⟨#[115, 101, 116]⟩, 3, 8, true, 1⟩, ⟨⟨#[115, 101, 116, 110, 120]⟩, 3, 3, true, 1⟩, ⟨⟨#[103, 101, 116, 115, 101, 116]⟩, 3, 3, true, 1⟩, ⟨⟨#[103, 101, 116, 100, 101, 108]⟩, 2, 2, true, 1⟩, ⟨⟨#[97, 112, 112, 101, 110, 100]⟩, 3, 3, true, 1⟩, ⟨⟨#[115, 116, 114, 108, 101, 110]⟩, 2, 2, false, 1⟩, ⟨⟨#[105, 110, 99, 114]⟩, 2, 2, true, 1⟩, ⟨⟨#[100, 101, 99, 114]⟩, 2, 2, true, 1⟩, ⟨⟨#[105, 110, 99, 114, 98, 121]⟩, 3, 3, true, 1⟩, ⟨⟨#[100, 101, 99, 114, 98, 121]⟩, 3, 3, true, 1⟩, ⟨⟨#[103, 101, 116, 114, 97, 110, 103, 101]⟩, 4, 4, false, 1⟩, ⟨⟨#[115, 101, 116, 114, 97, 110, 103, 101]⟩, 4, 4, true, 1⟩, ⟨⟨#[103, 101, 116, 98, 105, 116]⟩, 3, 3, false, 1⟩, ⟨⟨#[115, 101, 116, 98, 105, 116]⟩, 4, 4, true, 1⟩, ⟨⟨#[98, 105, 116, 99, 111, 117, 110, 116]⟩, 2, 4, false, 1⟩, ⟨⟨#[109, 103, 101, 116]⟩, 2, 256, false, 1⟩, ⟨⟨#[109, 115, 101, 116]⟩, 3, 256, true, 1⟩]
def cmHashes : List Cm := [⟨⟨#[104, 115, 101, 116]⟩, 4, 256, true, 2⟩, ⟨⟨#[104, 115, 101, 116, 110, 120]⟩, 4, 4, true, 2⟩, ⟨⟨#[104, 103, 101, 116]⟩, 3, 3, false, 2⟩, ⟨⟨#[104, 109, 103, 101, 116]⟩, 3, 256, false, 2⟩, ⟨⟨#[104, 100, 101, 108]⟩, 3, 256, true, 2⟩, ⟨⟨#[104, 101, 120, 105, 115, 116, 115]⟩, 3, 3, false, 2⟩, ⟨⟨#[104, 108, 101, 110]⟩, 2, 2, false, 2⟩, ⟨⟨#[104, 107, 101, 121, 115]⟩, 2, 2, false, 2⟩, ⟨⟨#[104, 118, 97, 108, 115]⟩, 2, 2, false, 2⟩, ⟨⟨#[104, 103, 101, 116, 97, 108, 108]⟩, 2, 2, false, 2⟩, ⟨⟨#[104, 105, 110, 99, 114, 98, 121]⟩, 4, 4, true, 2⟩, ⟨⟨#[104, 115, 116, 114, 108, 101, 110]⟩, 3, 3, false, 2⟩, ⟨⟨#[104, 115, 99, 97, 110]⟩, 3, 7, false, 2⟩]
def cmSets : List Cm := [⟨⟨#[115, 97, 100, 100]⟩, 3, 256, true, 3⟩, ⟨⟨#[115, 114, 101, 109]⟩, 3, 256, true, 3⟩, ⟨⟨#[115, 105, 115, 109, 101, 109, 98, 101, 114]⟩, 3, 3, false, 3⟩, ⟨⟨#[115, 99, 97, 114, 100]⟩, 2, 2, false, 3⟩, ⟨⟨#[115, 109, 101, 109, 98, 101, 114, 115]⟩, 2, 2, false, 3⟩, ⟨⟨#[115, 109, 111, 118, 101]⟩, 4, 4, true, 3⟩, ⟨⟨#[115, 105, 110, 116, 101, 114]⟩, 2, 256, false, 3⟩, ⟨⟨#[115, 117, 110, 105, 111, 110]⟩, 2, 256, false, 3⟩, ⟨⟨#[115, 100, 105, 102, 102]⟩, 2, 256, false, 3⟩, ⟨⟨#[115, 112, 111, 112]⟩, 2, 2, true, 3⟩, ⟨⟨#[115, 114, 97, 110, 100, 109, 101, 109, 98, 101, 114]⟩, 2, 2, false, 3⟩, ⟨⟨#[115, 115, 99, 97, 110]⟩, 3, 7, false, 3⟩]
def cmLists : List Cm := [⟨⟨#[108, 112, 117, 115, 104]⟩, 3, 256, true, 4⟩, ⟨⟨#[114, 112, 117, 115, 104]⟩, 3, 256, true, 4⟩, ⟨⟨#[108, 112, 111, 112]⟩, 2, 2, true, 4⟩, ⟨⟨#[114, 112, 111, 112]⟩, 2, 2, true, 4⟩, ⟨⟨#[108, 108, 101, 110]⟩, 2, 2, false, 4⟩, ⟨⟨#[108, 114, 97, 110, 103, 101]⟩, 4, 4, false, 4⟩, ⟨⟨#[108, 105, 110, 100, 101, 120]⟩, 3, 3, false, 4⟩, ⟨⟨#[108, 115, 101, 116]⟩, 4, 4, true, 4⟩, ⟨⟨#[108, 105, 110, 115, 101, 114, 116]⟩, 5, 5, true, 4⟩, ⟨⟨#[108, 114, 101, 109]⟩, 4, 4, true, 4⟩, ⟨⟨#[108, 116, 114, 105, 109]⟩, 4, 4, true, 4⟩, ⟨⟨#[114, 112, 111, 112, 108, 112, 117, 115, 104]⟩, 3, 3, true, 4⟩]
def cmKeys : List Cm := [⟨⟨#[100, 101, 108]⟩, 2, 256, true, 5⟩, ⟨⟨#[101, 120, 105, 115, 116, 115]⟩, 2, 256, false, 5⟩, ⟨⟨#[116, 121, 112, 101]⟩, 2, 2, false, 5⟩, ⟨⟨#[101, 120, 112, 105, 114, 101]⟩, 3, 3, true, 5⟩, ⟨⟨#[112, 101, 120, 112, 105, 114, 101]⟩, 3, 3, true, 5⟩, ⟨⟨#[116, 116, 108]⟩, 2, 2, false, 5⟩, ⟨⟨#[112, 116, 116, 108]⟩, 2, 2, false, 5⟩, ⟨⟨#[112, 101, 114, 115, 105, 115, 116]⟩, 2, 2, true, 5⟩, ⟨⟨#[114, 101, 110, 97, 109, 101]⟩, 3, 3, true, 5⟩, ⟨⟨#[114, 101, 110, 97, 109, 101, 110, 120]⟩, 3, 3, true, 5⟩, ⟨⟨#[99, 111, 112, 121]⟩, 3, 3, true, 5⟩, ⟨⟨#[107, 101, 121, 115]⟩, 2, 2, false, 5⟩, ⟨⟨#[115, 99, 97, 110]⟩, 2, 8, false, 5⟩, ⟨⟨#[100, 98, 115, 105, 122, 101]⟩, 1, 1, false, 5⟩, ⟨⟨#[102, 108, 117, 115, 104, 97, 108, 108]⟩, 1, 1, true, 5⟩, ⟨⟨#[114, 97, 110, 100, 111, 109, 107, 101, 121]⟩, 1, 1, false, 5⟩, ⟨⟨#[111, 98, 106, 101, 99, 116]⟩, 3, 3, false, 5⟩]
def cmConns : List Cm := [⟨⟨#[112, 105, 110, 103]⟩, 1, 2, false, 6⟩, ⟨⟨#[101, 99, 104, 111]⟩, 2, 2, false, 6⟩, ⟨⟨#[104, 101, 108, 108, 111]⟩, 1, 2, false, 6⟩, ⟨⟨#[109, 117, 108, 116, 105]⟩, 1, 1, false, 6⟩, ⟨⟨#[101, 120, 101, 99]⟩, 1, 1, false, 6⟩, ⟨⟨#[100, 105, 115, 99, 97, 114, 100]⟩, 1, 1, false, 6⟩, ⟨⟨#[119, 97, 116, 99, 104]⟩, 2, 256, false, 6⟩, ⟨⟨#[117, 110, 119, 97, 116, 99, 104]⟩, 1, 1, false, 6⟩, ⟨⟨#[113, 117, 105, 116]⟩, 1, 1, false, 6⟩]
def progs : List Cm := cmStrings ++ cmHashes ++ cmSets ++ cmLists ++ cmKeys ++ cmConns
theorem progs_len : progs.length = 81 := by kernel_rfl
theorem cells_new {w : World} {cs : Array Value} {t : TypeId} {news : List Value} (h : cs.toList = news) : ∀ ad, some (⟨w.heap.size, 0, none⟩ : Addr) = some ad → ∀ j u, news[j]? = some u → (w.alloc (.cells cs t)).cell? (ad.add j) = some u := by
  intro ad e j u hu
  cases e
  rw [add_flat, Nat.zero_add]
  exact cell_new w cs t j u (by rw [← h] at hu; simpa using hu)
set_option maxRecDepth 100000 in
set_option maxHeartbeats 4000000 in
theorem addStrings_any (B : Nat) (a : Option Addr) (n c : Nat) (cs : List Value) (w : World) (h : OwnT w B 5 a n c cs) (hn : n ≤ 1000) (hB : B ≤ w.heap.size) :
    Calls Tryz.prog 142 #[.slice a n c] w fun e w' => ∃ a2 n2 c2, n2 = n + 18 ∧ e = .returned (.slice a2 n2 c2) ∧ Hid (OwnT w' B 5 a2 n2 c2 (cs ++ ccells cmStrings)) ∧ Hid (Below B w w') := by
  have HO : Hid (OwnT w B 5 a n c cs) := h
  have HB : Hid (B ≤ w.heap.size) := hB
  have HN : Hid (n ≤ 1000) := hn
  clear h hB hn
  go_enter Tryz.func142, Tryz.ntmps142
  go_wp2_with (at_builtin; refine append_t rfl (.tmp 3) (.tmp 22) rfl eltC B rfl (HO.out.keep (alloc_below w _)) (ccells cmStrings) rfl rfl (by intro h; cases h) (cells_new rfl) (ccells_one _) (by have := HN.out; omega) (by have := HN.out; unfold maxLen; omega) (Nat.le_trans HB.out (alloc_below w _).size) ?_; intro a2 n2 c2 w2 hn2 HO2 HB2; replace HB2 : Hid (Below B w w2) := ((alloc_below w _).mono HB.out).trans HB2.out)
  go_ret
  exact ⟨a2, n2, c2, hn2, by rw [hn2]; rfl, HO2, HB2⟩
set_option maxRecDepth 100000 in
set_option maxHeartbeats 4000000 in
theorem addHashes_any (B : Nat) (a : Option Addr) (n c : Nat) (cs : List Value) (w : World) (h : OwnT w B 5 a n c cs) (hn : n ≤ 1000) (hB : B ≤ w.heap.size) :
    Calls Tryz.prog 143 #[.slice a n c] w fun e w' => ∃ a2 n2 c2, n2 = n + 13 ∧ e = .returned (.slice a2 n2 c2) ∧ Hid (OwnT w' B 5 a2 n2 c2 (cs ++ ccells cmHashes)) ∧ Hid (Below B w w') := by
  have HO : Hid (OwnT w B 5 a n c cs) := h
  have HB : Hid (B ≤ w.heap.size) := hB
  have HN : Hid (n ≤ 1000) := hn
  clear h hB hn
  go_enter Tryz.func143, Tryz.ntmps143
  go_wp2_with (at_builtin; refine append_t rfl (.tmp 3) (.tmp 17) rfl eltC B rfl (HO.out.keep (alloc_below w _)) (ccells cmHashes) rfl rfl (by intro h; cases h) (cells_new rfl) (ccells_one _) (by have := HN.out; omega) (by have := HN.out; unfold maxLen; omega) (Nat.le_trans HB.out (alloc_below w _).size) ?_; intro a2 n2 c2 w2 hn2 HO2 HB2; replace HB2 : Hid (Below B w w2) := ((alloc_below w _).mono HB.out).trans HB2.out)
  go_ret
  exact ⟨a2, n2, c2, hn2, by rw [hn2]; rfl, HO2, HB2⟩
set_option maxRecDepth 100000 in
set_option maxHeartbeats 4000000 in
theorem addSets_any (B : Nat) (a : Option Addr) (n c : Nat) (cs : List Value) (w : World) (h : OwnT w B 5 a n c cs) (hn : n ≤ 1000) (hB : B ≤ w.heap.size) :
    Calls Tryz.prog 144 #[.slice a n c] w fun e w' => ∃ a2 n2 c2, n2 = n + 12 ∧ e = .returned (.slice a2 n2 c2) ∧ Hid (OwnT w' B 5 a2 n2 c2 (cs ++ ccells cmSets)) ∧ Hid (Below B w w') := by
  have HO : Hid (OwnT w B 5 a n c cs) := h
  have HB : Hid (B ≤ w.heap.size) := hB
  have HN : Hid (n ≤ 1000) := hn
  clear h hB hn
  go_enter Tryz.func144, Tryz.ntmps144
  go_wp2_with (at_builtin; refine append_t rfl (.tmp 3) (.tmp 16) rfl eltC B rfl (HO.out.keep (alloc_below w _)) (ccells cmSets) rfl rfl (by intro h; cases h) (cells_new rfl) (ccells_one _) (by have := HN.out; omega) (by have := HN.out; unfold maxLen; omega) (Nat.le_trans HB.out (alloc_below w _).size) ?_; intro a2 n2 c2 w2 hn2 HO2 HB2; replace HB2 : Hid (Below B w w2) := ((alloc_below w _).mono HB.out).trans HB2.out)
  go_ret
  exact ⟨a2, n2, c2, hn2, by rw [hn2]; rfl, HO2, HB2⟩
set_option maxRecDepth 100000 in
set_option maxHeartbeats 4000000 in
theorem addLists_any (B : Nat) (a : Option Addr) (n c : Nat) (cs : List Value) (w : World) (h : OwnT w B 5 a n c cs) (hn : n ≤ 1000) (hB : B ≤ w.heap.size) :
    Calls Tryz.prog 145 #[.slice a n c] w fun e w' => ∃ a2 n2 c2, n2 = n + 12 ∧ e = .returned (.slice a2 n2 c2) ∧ Hid (OwnT w' B 5 a2 n2 c2 (cs ++ ccells cmLists)) ∧ Hid (Below B w w') := by
  have HO : Hid (OwnT w B 5 a n c cs) := h
  have HB : Hid (B ≤ w.heap.size) := hB
  have HN : Hid (n ≤ 1000) := hn
  clear h hB hn
  go_enter Tryz.func145, Tryz.ntmps145
  go_wp2_with (at_builtin; refine append_t rfl (.tmp 3) (.tmp 16) rfl eltC B rfl (HO.out.keep (alloc_below w _)) (ccells cmLists) rfl rfl (by intro h; cases h) (cells_new rfl) (ccells_one _) (by have := HN.out; omega) (by have := HN.out; unfold maxLen; omega) (Nat.le_trans HB.out (alloc_below w _).size) ?_; intro a2 n2 c2 w2 hn2 HO2 HB2; replace HB2 : Hid (Below B w w2) := ((alloc_below w _).mono HB.out).trans HB2.out)
  go_ret
  exact ⟨a2, n2, c2, hn2, by rw [hn2]; rfl, HO2, HB2⟩
set_option maxRecDepth 100000 in
set_option maxHeartbeats 4000000 in
theorem addKeys_any (B : Nat) (a : Option Addr) (n c : Nat) (cs : List Value) (w : World) (h : OwnT w B 5 a n c cs) (hn : n ≤ 1000) (hB : B ≤ w.heap.size) :
    Calls Tryz.prog 146 #[.slice a n c] w fun e w' => ∃ a2 n2 c2, n2 = n + 17 ∧ e = .returned (.slice a2 n2 c2) ∧ Hid (OwnT w' B 5 a2 n2 c2 (cs ++ ccells cmKeys)) ∧ Hid (Below B w w') := by
  have HO : Hid (OwnT w B 5 a n c cs) := h
  have HB : Hid (B ≤ w.heap.size) := hB
  have HN : Hid (n ≤ 1000) := hn
  clear h hB hn
  go_enter Tryz.func146, Tryz.ntmps146
  go_wp2_with (at_builtin; refine append_t rfl (.tmp 3) (.tmp 21) rfl eltC B rfl (HO.out.keep (alloc_below w _)) (ccells cmKeys) rfl rfl (by intro h; cases h) (cells_new rfl) (ccells_one _) (by have := HN.out; omega) (by have := HN.out; unfold maxLen; omega) (Nat.le_trans HB.out (alloc_below w _).size) ?_; intro a2 n2 c2 w2 hn2 HO2 HB2; replace HB2 : Hid (Below B w w2) := ((alloc_below w _).mono HB.out).trans HB2.out)
  go_ret
  exact ⟨a2, n2, c2, hn2, by rw [hn2]; rfl, HO2, HB2⟩
set_option maxRecDepth 100000 in
set_option maxHeartbeats 4000000 in
theorem addConns_any (B : Nat) (a : Option Addr) (n c : Nat) (cs : List Value) (w : World) (h : OwnT w B 5 a n c cs) (hn : n ≤ 1000) (hB : B ≤ w.heap.size) :
    Calls Tryz.prog 147 #[.slice a n c] w fun e w' => ∃ a2 n2 c2, n2 = n + 9 ∧ e = .returned (.slice a2 n2 c2) ∧ Hid (OwnT w' B 5 a2 n2 c2 (cs ++ ccells cmConns)) ∧ Hid (Below B w w') := by
  have HO : Hid (OwnT w B 5 a n c cs) := h
  have HB : Hid (B ≤ w.heap.size) := hB
  have HN : Hid (n ≤ 1000) := hn
  clear h hB hn
  go_enter Tryz.func147, Tryz.ntmps147
  go_wp2_with (at_builtin; refine append_t rfl (.tmp 3) (.tmp 13) rfl eltC B rfl (HO.out.keep (alloc_below w _)) (ccells cmConns) rfl rfl (by intro h; cases h) (cells_new rfl) (ccells_one _) (by have := HN.out; omega) (by have := HN.out; unfold maxLen; omega) (Nat.le_trans HB.out (alloc_below w _).size) ?_; intro a2 n2 c2 w2 hn2 HO2 HB2; replace HB2 : Hid (Below B w w2) := ((alloc_below w _).mono HB.out).trans HB2.out)
  go_ret
  exact ⟨a2, n2, c2, hn2, by rw [hn2]; rfl, HO2, HB2⟩
set_option maxRecDepth 100000 in
theorem table_any (B : Nat) (a : Option Addr) (c : Nat) (w : World) (h : OwnT w B 5 a 0 c []) (hB : B ≤ w.heap.size) :
    Calls Tryz.prog 89 #[.slice a 0 c] w fun e w' => ∃ a2 c2, e = .returned (.slice a2 81 c2) ∧ Hid (OwnC w' B a2 81 c2 progs) ∧ Hid (Below B w w') := by
  have HO0 : Hid (OwnT w B 5 a 0 c []) := h
  have HS0 : Hid (B ≤ w.heap.size) := hB
  have HB0 : Hid (Below B w w) := Below.refl _ _
  clear h hB
  go_enter Tryz.func89, Tryz.ntmps89
  go_wp2_with (first
    | (go_at_call 142; refine (addStrings_any B _ _ _ _ _ HO0.out (by decide) HS0.out).mono ?_; rintro e w1 ⟨a1, n1, c1, hn1, rfl, HO1, hb1⟩; subst hn1; have HS1 : Hid (B ≤ w1.heap.size) := Nat.le_trans HS0.out hb1.out.size; have HB1 : Hid (Below B w w1) := HB0.out.trans hb1.out; clear hb1)
    | (go_at_call 143; refine (addHashes_any B _ _ _ _ _ HO1.out (by decide) HS1.out).mono ?_; rintro e w2 ⟨a2, n2, c2, hn2, rfl, HO2, hb2⟩; subst hn2; have HS2 : Hid (B ≤ w2.heap.size) := Nat.le_trans HS1.out hb2.out.size; have HB2 : Hid (Below B w w2) := HB1.out.trans hb2.out; clear hb2)
    | (go_at_call 144; refine (addSets_any B _ _ _ _ _ HO2.out (by decide) HS2.out).mono ?_; rintro e w3 ⟨a3, n3, c3, hn3, rfl, HO3, hb3⟩; subst hn3; have HS3 : Hid (B ≤ w3.heap.size) := Nat.le_trans HS2.out hb3.out.size; have HB3 : Hid (Below B w w3) := HB2.out.trans hb3.out; clear hb3)
    | (go_at_call 145; refine (addLists_any B _ _ _ _ _ HO3.out (by decide) HS3.out).mono ?_; rintro e w4 ⟨a4, n4, c4, hn4, rfl, HO4, hb4⟩; subst hn4; have HS4 : Hid (B ≤ w4.heap.size) := Nat.le_trans HS3.out hb4.out.size; have HB4 : Hid (Below B w w4) := HB3.out.trans hb4.out; clear hb4)
    | (go_at_call 146; refine (addKeys_any B _ _ _ _ _ HO4.out (by decide) HS4.out).mono ?_; rintro e w5 ⟨a5, n5, c5, hn5, rfl, HO5, hb5⟩; subst hn5; have HS5 : Hid (B ≤ w5.heap.size) := Nat.le_trans HS4.out hb5.out.size; have HB5 : Hid (Below B w w5) := HB4.out.trans hb5.out; clear hb5)
    | (go_at_call 147; refine (addConns_any B _ _ _ _ _ HO5.out (by decide) HS5.out).mono ?_; rintro e w6 ⟨a6, n6, c6, hn6, rfl, HO6, hb6⟩; subst hn6; have HS6 : Hid (B ≤ w6.heap.size) := Nat.le_trans HS5.out hb6.out.size; have HB6 : Hid (Below B w w6) := HB5.out.trans hb6.out; clear hb6))
  go_ret
  refine ⟨_, _, rfl, ?_, HB6⟩
  have e : ccells progs = ([] ++ ccells cmStrings ++ ccells cmHashes ++ ccells cmSets ++ ccells cmLists ++ ccells cmKeys ++ ccells cmConns) := by
    rw [progs, ccells_append, ccells_append, ccells_append, ccells_append, ccells_append, List.nil_append]
  show OwnT _ _ _ _ _ _ (ccells progs)
  rw [e]
  exact HO6.out
end Go.Proofs.YtnajhjmdpaeelaaGreatDoor.Cy
