/-
  Rows in memory: of texts, and of any elements; what keeps them, what append makes of them.
-/
import Derived.Test.YtlapiaoopmhogaaDoorMem
import Derived.Maps.AppendAt
import Derived.Deep.RegionHeld3
import Derived.Deep.RegionWith
import Derived.OwnWalk
namespace Go.Proofs.YtlapiaoopmhogaaDoor
open Go.RowKit Go.PlainAid

theorem alloc_below (w : World) (o : Obj) : Below w.heap.size w (w.alloc o) := (Below.refl _ _).alloc (Nat.le_refl _) o
theorem alloc_lt (w : World) (cs : Array Value) (t : TypeId) : w.heap.size < (w.alloc (.cells cs t)).heap.size := (Array.getElem?_eq_some_iff.1 (heap_alloc_new w (.cells cs t))).1
theorem cell_new (w : World) (cs : Array Value) (t : TypeId) (i : Nat) (v : Value) (h : cs[i]? = some v) : (w.alloc (.cells cs t)).cell? ⟨w.heap.size, i, none⟩ = some v := by
  simp only [World.cell?, heap_alloc_new]; exact h
theorem heap_set {w : World} {b o : Nat} {cs : Array Value} {t : TypeId} (h : w.heap[b]? = some (.cells cs t (0, 0))) (v : Value) : (w.setCell ⟨b, o, none⟩ v).heap[b]? = some (.cells (cs.setIfInBounds o v) t (0, 0)) := by
  simp only [World.setCell, Array.getElem?_modify, if_true, h]
  rfl
structure Stay (w w' : World) (M : List Nat) : Prop where
  os : w'.os = w.os
  tape : w'.tape = w.tape
  output : w'.output = w.output
  size : w.heap.size ≤ w'.heap.size
  block : ∀ k, k < w.heap.size → k ∉ M → w'.heap[k]? = w.heap[k]?
theorem Stay.of_below {w w' : World} (h : Below w.heap.size w w') (M : List Nat) : Stay w w' M := ⟨h.os, h.tape, h.output, h.size, fun k hk _ => h.block k hk⟩
theorem Stay.trans {w w1 w2 : World} {M M' : List Nat} (h : Stay w w1 M) (k : Stay w1 w2 M') (hM : ∀ i ∈ M', i ∈ M ∨ w.heap.size ≤ i) : Stay w w2 M :=
  ⟨k.os.trans h.os, k.tape.trans h.tape, k.output.trans h.output, Nat.le_trans h.size k.size, fun i hi hn =>
    (k.block i (Nat.lt_of_lt_of_le hi h.size) (fun hm => (hM i hm).elim hn (fun h1 => by omega))).trans (h.block i hi hn)⟩
theorem Stay.mono {w w' : World} {M M' : List Nat} (h : Stay w w' M) (hM : ∀ i ∈ M, i ∈ M') : Stay w w' M' :=
  ⟨h.os, h.tape, h.output, h.size, fun k hk hn => h.block k hk (fun hm => hn (hM k hm))⟩
theorem Stay.below {w w' : World} {M : List Nat} {B : Nat} (h : Stay w w' M) (hM : ∀ i ∈ M, B ≤ i) (hB : B ≤ w.heap.size) : Below B w w' :=
  ⟨h.os, h.tape, h.output, h.size, fun k hk => h.block k (Nat.lt_of_lt_of_le hk hB) (fun hm => by have := hM k hm; omega)⟩
theorem Stay.set {w : World} {q o : Nat} {v : Value} : Stay w (w.setCell ⟨q, o, none⟩ v) [q] :=
  ⟨rfl, rfl, rfl, by simp [World.setCell], fun k _ h1 => Below.heap_setCell _ _ _ _ (by simpa using h1)⟩
structure Elt (t e : TypeId) (s by8 : Nat) : Prop where
  und : Tryd.prog.underlying t = some (.slice e)
  inf : ∃ i z, Tryd.prog.info? e = some i ∧ i.zero = some z ∧ i.size = s ∧ i.bytes = by8 ∧ z.cells.size = s
  pos : 0 < s
theorem elt_of {t e : TypeId} {s by8 : Nat} {z : Value} (hu : Tryd.prog.underlying t = some (.slice e)) (hi : (Tryd.prog.info? e).map (fun i => (i.zero, i.size, i.bytes)) = some (some z, s, by8)) (hz : z.cells.size = s) (hp : 0 < s) : Elt t e s by8 := by
  obtain ⟨i, h1, h2, h3, h4⟩ := info_parts hi
  exact ⟨hu, ⟨i, z, h1, h2, h3, h4, hz⟩, hp⟩
def OwnR (w : World) (B : Nat) (e : TypeId) (s : Nat) (a : Option Addr) (n cap : Nat) (cs : List Value) : Prop := w.ownsRow B e s (.slice a n cap) n cs
theorem OwnR.nil (w : World) (B : Nat) (e : TypeId) (s : Nat) : OwnR w B e s none 0 0 [] := World.ownsRow_nil w B e s
theorem OwnR.len {w : World} {B : Nat} {e : TypeId} {s : Nat} {a : Option Addr} {n cap : Nat} {cs : List Value} (h : OwnR w B e s a n cap cs) : cs.length = n * s := h.1
theorem OwnR.lt {w : World} {B : Nat} {e : TypeId} {s : Nat} {a : Option Addr} {n cap : Nat} {cs : List Value} (h : OwnR w B e s a n cap cs) {k : Nat} (hk : a.map (·.block) = some k) : B ≤ k ∧ k < w.heap.size ∧ ∃ cur, w.heap[k]? = some (.cells cur e (0, 0)) := by
  rcases h.2 with ⟨h2, h3⟩ | ⟨g, c, cur, h1, h3, h4, h5⟩
  · cases h2; cases hk
  · cases h1
    cases hk
    exact ⟨h3, (Array.getElem?_eq_some_iff.1 h4).1, cur, h4⟩
theorem OwnR.kept {w wn : World} {B : Nat} {e : TypeId} {s : Nat} {a : Option Addr} {n cap : Nat} {cs : List Value} (h : OwnR w B e s a n cap cs) (hb : ∀ k, a.map (·.block) = some k → wn.heap[k]? = w.heap[k]?) : OwnR wn B e s a n cap cs := by
  refine ⟨h.1, ?_⟩
  rcases h.2 with h2 | ⟨g, c, cur, h1, h3, h4, h5⟩
  · exact .inl h2
  · refine .inr ⟨g, c, cur, h1, h3, ?_, h5⟩
    cases h1
    rw [hb g rfl]; exact h4
theorem OwnR.keep {w wn : World} {B : Nat} {e : TypeId} {s : Nat} {a : Option Addr} {n cap : Nat} {cs : List Value} (h : OwnR w B e s a n cap cs) (hb : Below w.heap.size w wn) : OwnR wn B e s a n cap cs :=
  h.kept fun k hk => hb.block k (h.lt hk).2.1
theorem OwnR.low {w : World} {B C : Nat} {e : TypeId} {s : Nat} {a : Option Addr} {n cap : Nat} {cs : List Value} (h : OwnR w B e s a n cap cs) (hC : C ≤ B) : OwnR w C e s a n cap cs := by
  refine ⟨h.1, ?_⟩
  rcases h.2 with h2 | ⟨g, c, cur, h1, h3, h4⟩
  · exact .inl h2
  · exact .inr ⟨g, c, cur, h1, Nat.le_trans hC h3, h4⟩
theorem OwnR.cap {w : World} {B : Nat} {e : TypeId} {s : Nat} {a : Option Addr} {n cap : Nat} {cs : List Value} (h : OwnR w B e s a n cap cs) : n ≤ cap ∧ cap ≤ maxLen := by
  rcases h.2 with ⟨h2, h3⟩ | ⟨g, c, cur, h1, h3, h4, h5, h6, h7⟩
  · cases h2; exact ⟨by omega, by decide⟩
  · cases h1; exact ⟨h5, h6⟩
theorem OwnR.at {w : World} {B : Nat} {e : TypeId} {s : Nat} {a : Option Addr} {n cap : Nat} {cs : List Value} (h : OwnR w B e s a n cap cs) (hn : 0 < n) : ∃ g, a = some ⟨g, 0, none⟩ ∧ ∀ j u, cs[j]? = some u → w.cell? ⟨g, j, none⟩ = some u := by
  rcases h.2 with ⟨h2, h3⟩ | ⟨g, c, cur, h1, h3, h4, h5, h6, h7, h8⟩
  · omega
  · cases h1
    refine ⟨g, rfl, fun j u hu => ?_⟩
    have := World.ownsRow.cells (w := w) h (g := g) rfl j u hu
    rw [add_flat, Nat.zero_add] at this
    exact this
def Goes (w : World) (a a2 : Option Addr) : Prop := a2.map (·.block) = a.map (·.block) ∨ a2.map (·.block) = some w.heap.size
theorem run_append_r (w : World) (B : Nat) {t e : TypeId} {s by8 : Nat} (F : Elt t e s by8) {a : Option Addr} {n cap : Nat} {cs : List Value} (hown : OwnR w B e s a n cap cs) {ad : Addr} {m c : Nat} (news : List Value) (hl : news.length = m * s)
    (hnews : ∀ j u, news[j]? = some u → w.cell? (ad.add j) = some u) (h1 : ∀ u ∈ news, u.oneCell' = true) (hm : 0 < m) (hb : (n + m) * by8 ≤ 140737488355328) (h63 : n + m ≤ maxLen) (hB : B ≤ w.heap.size) (ty : TypeId) :
    ∃ a2 c2 w2, (Builtin.append_ #[t, t] ty #[.slice a n cap, .slice (some ad) m c]).run Tryd.prog w = .ok (.slice a2 (n + m) c2) w2 ∧ OwnR w2 B e s a2 (n + m) c2 (cs ++ news) ∧ w.grownBy w2 (a.map (·.block)) ∧ Goes w a a2 := by
  obtain ⟨i, z, hi, hz0, hz1, hz2, hz3⟩ := F.inf
  obtain ⟨v', w', k1, k2, k3, -, k5⟩ := run_append_own_at (P := Tryd.prog) w B t ty e i z s by8 F.und hi hz0 hz1 hz2 hz3 F.pos (.slice a n cap) n cs hown ad m c news hl hnews h1 h63 hb hB
  have hblk : (Value.slice a n cap).ownBlock = a.map (·.block) := by cases a <;> rfl
  rw [hblk] at k3 k5
  rcases k2.2 with ⟨rfl, h4⟩ | ⟨g2, c2, cur, rfl, h4⟩
  · omega
  · exact ⟨_, _, w', k1, k2, k3, k5⟩
theorem append_r {w : World} {ops : Array Oper} {rest : List Oper} {o : Oper} {ac : Act} {Q : Exit → Act → World → Prop} (hgd : o.guard = none) (s x : Operand) {t e : TypeId} {sz by8 : Nat} (ho : o.op = .call { callee := .builtin .append, args := #[s, x], argTypes := #[t, t] })
    (F : Elt t e sz by8) (B : Nat) {a : Option Addr} {n cap : Nat} {cs : List Value} (hs : ac.eval s = .slice a n cap) (hown : OwnR w B e sz a n cap cs) {ad : Addr} {m c : Nat} (news : List Value) (hx : ac.eval x = .slice (some ad) m c) (hl : news.length = m * sz)
    (hnews : ∀ j u, news[j]? = some u → w.cell? (ad.add j) = some u) (h1 : ∀ u ∈ news, u.oneCell' = true) (hm : 0 < m) (hb : (n + m) * by8 ≤ 140737488355328) (h63 : n + m ≤ maxLen) (hB : B ≤ w.heap.size)
    (h : ∀ a2 n2 c2 w2, n2 = n + m → Hid (OwnR w2 B e sz a2 n2 c2 (cs ++ news)) → Hid (w.grownBy w2 (a.map (·.block))) → Hid (Goes w a a2) → wpList Tryd.prog ops Q rest (ac.put o.dst (.slice a2 n2 c2)) w2) : wpList Tryd.prog ops Q (o :: rest) ac w := by
  obtain ⟨a2, c2, w2, h1, h2, h3, h4⟩ := run_append_r w B F hown (c := c) news hl hnews h1 hm hb h63 hB o.type
  refine wpList_plain hgd fun K hK => ?_
  unfold Oper.wp
  simp [execOp, ho, resolve, invoke, builtin, hs, hx, h1, Result.andThen]
  exact hK _ _ (h a2 _ c2 w2 rfl h2 h3 h4)
theorem OwnR.below {w w2 : World} {B : Nat} {e : TypeId} {s : Nat} {a : Option Addr} {n cap : Nat} {cs : List Value} (h : OwnR w B e s a n cap cs) (hg : w.grownBy w2 (a.map (·.block))) (hB : B ≤ w.heap.size) : Below B w w2 :=
  (Below.refl B w).grown hg hB (fun _ hk => (h.lt hk).1)
theorem OwnR.grown {w w2 : World} {B : Nat} {e : TypeId} {s : Nat} {a : Option Addr} {n cap : Nat} {cs : List Value} {row : Option Nat} (h : OwnR w B e s a n cap cs) (hg : w.grownBy w2 row) (hne : ∀ k, a.map (·.block) = some k → row ≠ some k) : OwnR w2 B e s a n cap cs :=
  h.kept fun k hk => hg.block k (h.lt hk).2.1 (fun e => hne k hk e.symm)
theorem step_append_r {w : World} {ops : Array Oper} {o : Oper} {ac : Act} {K : Act → World → Prop} {Q : Exit → Act → World → Prop} {E : Prop} (hgd : o.guard = none) (s x : Operand) {t e : TypeId} {sz by8 : Nat} (ho : o.op = .call { callee := .builtin .append, args := #[s, x], argTypes := #[t, t] })
    (F : Elt t e sz by8) (B : Nat) {a : Option Addr} {n cap : Nat} {cs : List Value} (hs : ac.eval s = .slice a n cap) (hown : OwnR w B e sz a n cap cs) {ad : Addr} {m c : Nat} (news : List Value) (hx : ac.eval x = .slice (some ad) m c) (hl : news.length = m * sz)
    (hnews : ∀ j u, news[j]? = some u → w.cell? (ad.add j) = some u) (h1 : ∀ u ∈ news, u.oneCell' = true) (hm : 0 < m) (hb : (n + m) * by8 ≤ 140737488355328) (h63 : n + m ≤ maxLen) (hB : B ≤ w.heap.size)
    (h : ∀ a2 n2 c2 w2, n2 = n + m → Hid (OwnR w2 B e sz a2 n2 c2 (cs ++ news)) → Hid (w.grownBy w2 (a.map (·.block))) → Hid (Goes w a a2) → K (ac.put o.dst (.slice a2 n2 c2)) w2) : if Region.wanted o (yielded ops ac.tmps) = true then Oper.wp Tryd.prog o ac w K Q else E := by
  have hw : Region.wanted o (yielded ops ac.tmps) = true := by simp [Region.wanted, hgd]
  rw [if_pos hw]
  obtain ⟨a2, c2, w2, k1, k2, k3, k4⟩ := run_append_r w B F hown (c := c) news hl hnews h1 hm hb h63 hB o.type
  unfold Oper.wp
  simp [execOp, ho, resolve, invoke, builtin, hs, hx, k1, Result.andThen]
  exact h a2 _ c2 w2 rfl k2 k3 k4
/-- A slice that reads the texts ls. -/
structure RdS (w : World) (a : Option Addr) (n : Nat) (ls : List ByteArray) : Prop where
  len : ls.length = n
  max : n ≤ maxLen
  cell : ∀ j, j < n → ∃ b off, a = some ⟨b, off, none⟩ ∧ w.cell? ⟨b, off + j, none⟩ = some (.string (ls.getD j ByteArray.empty))
theorem RdS.keep {w wn : World} {a : Option Addr} {n : Nat} {ls : List ByteArray} (h : RdS w a n ls) (hb : Below w.heap.size w wn) : RdS wn a n ls :=
  ⟨h.len, h.max, fun j hj => by
    obtain ⟨b, off, e, hc⟩ := h.cell j hj
    exact ⟨b, off, e, by rw [hb.cell (p := ⟨b, off + j, none⟩) (World.block_lt_of_cell? _ _ hc)]; exact hc⟩⟩

/-- A row of texts of the call's own. -/
def OwnS (w : World) (B : Nat) (a : Option Addr) (n cap : Nat) (ls : List ByteArray) : Prop := w.ownsRow B 9 1 (.slice a n cap) n (ls.map Value.string)
theorem OwnS.len {w : World} {B : Nat} {a : Option Addr} {n cap : Nat} {ls : List ByteArray} (h : OwnS w B a n cap ls) : ls.length = n := by
  have := h.1; simpa using this
theorem OwnS.keep {w wn : World} {B : Nat} {a : Option Addr} {n cap : Nat} {l : List ByteArray} (h : OwnS w B a n cap l) (hb : Below w.heap.size w wn) : OwnS wn B a n cap l := by
  refine ⟨h.1, ?_⟩
  rcases h.2 with h2 | ⟨g, c, cur, h1, h3, h4, h5⟩
  · exact .inl h2
  · refine .inr ⟨g, c, cur, h1, h3, ?_, h5⟩
    rw [hb.block g (Array.getElem?_eq_some_iff.1 h4).1]; exact h4
theorem OwnS.rd {w : World} {B : Nat} {a : Option Addr} {n cap : Nat} {ls : List ByteArray} (h : OwnS w B a n cap ls) : RdS w a n ls := by
  have hl := h.len
  rcases h.2 with ⟨h2, h3⟩ | ⟨g, c, cur, h1, h3, h4, h5, h6, h7, h8⟩
  · cases h2
    exact RdS.mk hl (by rw [h3]; decide) (fun j hj => absurd hj (by omega))
  · cases h1
    refine RdS.mk hl (Nat.le_trans h5 h6) (fun j hj => ⟨g, 0, rfl, ?_⟩)
    have := h.cells (g := g) rfl j (.string (ls.getD j ByteArray.empty)) (by
      simp only [List.getElem?_map, List.getD_eq_getElem?_getD]
      rw [List.getElem?_eq_getElem (by omega)]; rfl)
    rw [add_flat] at this
    rw [Nat.zero_add] at this ⊢
    exact this
theorem Tryd.info9 : (Tryd.prog.info? 9).map (fun i => (i.zero, i.size, i.bytes)) = some (some (.string ⟨#[]⟩), 1, 16) := by kernel_rfl

/-- out = append(out, s). -/
theorem append_str {w : World} {ops : Array Oper} {rest : List Oper} {o : Oper} {ac : Act} {Q : Exit → Act → World → Prop} (hgd : o.guard = none) (s x : Operand) (ho : o.op = .call { callee := .builtin .append, args := #[s, x], argTypes := #[24, 24] })
    (B : Nat) {a : Option Addr} {n cap : Nat} {ls : List ByteArray} (hs : ac.eval s = .slice a n cap) (hown : OwnS w B a n cap ls)
    {g : Nat} {t : ByteArray} (hx : ac.eval x = .slice (some ⟨g, 0, none⟩) 1 1) (hr : w.cell? ⟨g, 0, none⟩ = some (.string t)) (hb : n + 1 ≤ 1000000) (hB : B ≤ w.heap.size)
    (h : ∀ a2 n2 c2 w2, n2 = n + 1 → OwnS w2 B a2 n2 c2 (ls ++ [t]) → Below B w w2 → wpList Tryd.prog ops Q rest (ac.put o.dst (.slice a2 n2 c2)) w2) : wpList Tryd.prog ops Q (o :: rest) ac w := by
  obtain ⟨i0, hi, hz0, hz1, hz2⟩ := info_parts Tryd.info9
  refine wpList_append_own w hgd s x 24 ho B 9 i0 (.string ⟨#[]⟩) 1 16 Tryd.underlying24 hi hz0 hz1 hz2 rfl (by decide) (.slice a n cap) n (ls.map Value.string) hs hown ⟨g, 0, none⟩ 1 1 [.string t] hx rfl ?_ (by simp [Value.oneCell']) (by unfold maxLen; omega) (by omega) hB ?_
  · intro j u hu
    cases j with
    | zero => rw [add_flat, hr]; exact hu
    | succ j => simp at hu
  · intro v' w' h1 h2 _
    have hbel : Below B w w' := (Below.refl B w).grown h2 hB (fun k hk => (hown.lt k hk).1)
    have e1 : ls.map Value.string ++ [.string t] = (ls ++ [t]).map Value.string := by rw [List.map_append]; rfl
    rw [e1] at h1
    rcases h1.2 with ⟨rfl, h3⟩ | ⟨g, c, cur, rfl, h3⟩
    · omega
    · exact h _ _ _ w' rfl h1 hbel

end Go.Proofs.YtlapiaoopmhogaaDoor
