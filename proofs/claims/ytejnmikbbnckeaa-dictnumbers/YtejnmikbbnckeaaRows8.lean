/-
  Rows of the call's own, of whatever elements: what keeps them, what append makes of them; texts, numbers, entries, words.
-/
import Derived.Test.YtejnmikbbnckeaaTab
import Derived.Maps.AppendAt
namespace Go.Proofs.Ytejnmikbbnckeaa
open Go.RowKit Go.PlainAid

/-- What must be known of an element's type. -/
structure Elt (t e : TypeId) (s by8 : Nat) : Prop where
  und : Try.prog.underlying t = some (.slice e)
  inf : ∃ i z, Try.prog.info? e = some i ∧ i.zero = some z ∧ i.size = s ∧ i.bytes = by8 ∧ z.cells.size = s
  pos : 0 < s
theorem elt_of {t e : TypeId} {s by8 : Nat} {z : Value} (hu : Try.prog.underlying t = some (.slice e)) (hi : (Try.prog.info? e).map (fun i => (i.zero, i.size, i.bytes)) = some (some z, s, by8)) (hz : z.cells.size = s) (hp : 0 < s) : Elt t e s by8 := by
  obtain ⟨i, h1, h2, h3, h4⟩ := info_parts hi
  exact ⟨hu, ⟨i, z, h1, h2, h3, h4, hz⟩, hp⟩

/-- A row of the call's own: elements of s cells each. -/
def OwnR (w : World) (B : Nat) (e : TypeId) (s : Nat) (a : Option Addr) (n cap : Nat) (cs : List Value) : Prop := w.ownsRow B e s (.slice a n cap) n cs
theorem OwnR.nil (w : World) (B : Nat) (e : TypeId) (s : Nat) : OwnR w B e s none 0 0 [] := World.ownsRow_nil w B e s
theorem OwnR.len {w : World} {B : Nat} {e : TypeId} {s : Nat} {a : Option Addr} {n cap : Nat} {cs : List Value} (h : OwnR w B e s a n cap cs) : cs.length = n * s := h.1
theorem OwnR.lt {w : World} {B : Nat} {e : TypeId} {s : Nat} {a : Option Addr} {n cap : Nat} {cs : List Value} (h : OwnR w B e s a n cap cs) {k : Nat} (hk : a.map (·.block) = some k) : B ≤ k ∧ k < w.heap.size ∧ ∃ cur, w.heap[k]? = some (.cells cur e (0, 0)) := by
  rcases h.2 with ⟨h2, h3⟩ | ⟨g, c, cur, h1, h3, h4, h5⟩
  · cases h2; cases hk
  · cases h1
    cases hk
    exact ⟨h3, (Array.getElem?_eq_some_iff.1 h4).1, cur, h4⟩
theorem OwnR.kept {w wn : World} {B : Nat} {e : TypeId} {s : Nat} {a : Option Addr} {n cap : Nat} {cs : List Value} (h : OwnR w B e s a n cap cs) (hb : ∀ k, a.map (·.block) = some k → wn.heap[k]? = w.heap[k]?) : OwnR wn B e s a n cap cs := by
  refine ⟨h.1, ?_⟩
  rcases h.2 with h2 | ⟨g, c, cur, h1, h3, h4, h5⟩
  · exact .inl h2
  · refine .inr ⟨g, c, cur, h1, h3, ?_, h5⟩
    cases h1
    rw [hb g rfl]; exact h4
theorem OwnR.keep {w wn : World} {B : Nat} {e : TypeId} {s : Nat} {a : Option Addr} {n cap : Nat} {cs : List Value} (h : OwnR w B e s a n cap cs) (hb : Below w.heap.size w wn) : OwnR wn B e s a n cap cs :=
  h.kept fun k hk => hb.block k (h.lt hk).2.1
theorem OwnR.low {w : World} {B C : Nat} {e : TypeId} {s : Nat} {a : Option Addr} {n cap : Nat} {cs : List Value} (h : OwnR w B e s a n cap cs) (hC : C ≤ B) : OwnR w C e s a n cap cs := by
  refine ⟨h.1, ?_⟩
  rcases h.2 with h2 | ⟨g, c, cur, h1, h3, h4⟩
  · exact .inl h2
  · exact .inr ⟨g, c, cur, h1, Nat.le_trans hC h3, h4⟩
theorem OwnR.cap {w : World} {B : Nat} {e : TypeId} {s : Nat} {a : Option Addr} {n cap : Nat} {cs : List Value} (h : OwnR w B e s a n cap cs) : n ≤ cap ∧ cap ≤ maxLen := by
  rcases h.2 with ⟨h2, h3⟩ | ⟨g, c, cur, h1, h3, h4, h5, h6, h7⟩
  · cases h2; exact ⟨by omega, by decide⟩
  · cases h1; exact ⟨h5, h6⟩
theorem OwnR.at {w : World} {B : Nat} {e : TypeId} {s : Nat} {a : Option Addr} {n cap : Nat} {cs : List Value} (h : OwnR w B e s a n cap cs) (hn : 0 < n) : ∃ g, a = some ⟨g, 0, none⟩ ∧ ∀ j u, cs[j]? = some u → w.cell? ⟨g, j, none⟩ = some u := by
  rcases h.2 with ⟨h2, h3⟩ | ⟨g, c, cur, h1, h3, h4, h5, h6, h7, h8⟩
  · omega
  · cases h1
    refine ⟨g, rfl, fun j u hu => ?_⟩
    have := World.ownsRow.cells (w := w) h (g := g) rfl j u hu
    rw [add_flat, Nat.zero_add] at this
    exact this

/-- Where a row is behind an append: where it was, or in new memory. -/
def Goes (w : World) (a a2 : Option Addr) : Prop := a2.map (·.block) = a.map (·.block) ∨ a2.map (·.block) = some w.heap.size

theorem run_append_r (w : World) (B : Nat) {t e : TypeId} {s by8 : Nat} (F : Elt t e s by8) {a : Option Addr} {n cap : Nat} {cs : List Value} (hown : OwnR w B e s a n cap cs) {ad : Addr} {m c : Nat} (news : List Value) (hl : news.length = m * s)
    (hnews : ∀ j u, news[j]? = some u → w.cell? (ad.add j) = some u) (h1 : ∀ u ∈ news, u.oneCell' = true) (hm : 0 < m) (hb : (n + m) * by8 ≤ 140737488355328) (h63 : n + m ≤ maxLen) (hB : B ≤ w.heap.size) (ty : TypeId) :
    ∃ a2 c2 w2, (Builtin.append_ #[t, t] ty #[.slice a n cap, .slice (some ad) m c]).run Try.prog w = .ok (.slice a2 (n + m) c2) w2 ∧ OwnR w2 B e s a2 (n + m) c2 (cs ++ news) ∧ w.grownBy w2 (a.map (·.block)) ∧ Goes w a a2 := by
  obtain ⟨i, z, hi, hz0, hz1, hz2, hz3⟩ := F.inf
  obtain ⟨v', w', k1, k2, k3, -, k5⟩ := run_append_own_at (P := Try.prog) w B t ty e i z s by8 F.und hi hz0 hz1 hz2 hz3 F.pos (.slice a n cap) n cs hown ad m c news hl hnews h1 h63 hb hB
  have hblk : (Value.slice a n cap).ownBlock = a.map (·.block) := by cases a <;> rfl
  rw [hblk] at k3 k5
  rcases k2.2 with ⟨rfl, h4⟩ | ⟨g2, c2, cur, rfl, h4⟩
  · omega
  · exact ⟨_, _, w', k1, k2, k3, k5⟩

theorem append_r {w : World} {ops : Array Oper} {rest : List Oper} {o : Oper} {ac : Act} {Q : Exit → Act → World → Prop} (hgd : o.guard = none) (s x : Operand) {t e : TypeId} {sz by8 : Nat} (ho : o.op = .call { callee := .builtin .append, args := #[s, x], argTypes := #[t, t] })
    (F : Elt t e sz by8) (B : Nat) {a : Option Addr} {n cap : Nat} {cs : List Value} (hs : ac.eval s = .slice a n cap) (hown : OwnR w B e sz a n cap cs) {ad : Addr} {m c : Nat} (news : List Value) (hx : ac.eval x = .slice (some ad) m c) (hl : news.length = m * sz)
    (hnews : ∀ j u, news[j]? = some u → w.cell? (ad.add j) = some u) (h1 : ∀ u ∈ news, u.oneCell' = true) (hm : 0 < m) (hb : (n + m) * by8 ≤ 140737488355328) (h63 : n + m ≤ maxLen) (hB : B ≤ w.heap.size)
    (h : ∀ a2 n2 c2 w2, n2 = n + m → Hid (OwnR w2 B e sz a2 n2 c2 (cs ++ news)) → Hid (w.grownBy w2 (a.map (·.block))) → Hid (Goes w a a2) → wpList Try.prog ops Q rest (ac.put o.dst (.slice a2 n2 c2)) w2) : wpList Try.prog ops Q (o :: rest) ac w := by
  obtain ⟨a2, c2, w2, h1, h2, h3, h4⟩ := run_append_r w B F hown (c := c) news hl hnews h1 hm hb h63 hB o.type
  refine wpList_plain hgd fun K hK => ?_
  unfold Oper.wp
  simp [execOp, ho, resolve, invoke, builtin, hs, hx, h1, Result.andThen]
  exact hK _ _ (h a2 _ c2 w2 rfl h2 h3 h4)
theorem OwnR.below {w w2 : World} {B : Nat} {e : TypeId} {s : Nat} {a : Option Addr} {n cap : Nat} {cs : List Value} (h : OwnR w B e s a n cap cs) (hg : w.grownBy w2 (a.map (·.block))) (hB : B ≤ w.heap.size) : Below B w w2 :=
  (Below.refl B w).grown hg hB (fun _ hk => (h.lt hk).1)
/-- What is in another block is as it was behind an append. -/
theorem OwnR.grown {w w2 : World} {B : Nat} {e : TypeId} {s : Nat} {a : Option Addr} {n cap : Nat} {cs : List Value} {row : Option Nat} (h : OwnR w B e s a n cap cs) (hg : w.grownBy w2 row) (hne : ∀ k, a.map (·.block) = some k → row ≠ some k) : OwnR w2 B e s a n cap cs :=
  h.kept fun k hk => hg.block k (h.lt hk).2.1 (fun e => hne k hk e.symm)
/-- Rows of unlike elements are apart. -/
theorem OwnR.apart {w : World} {B C : Nat} {e e' : TypeId} {s s' : Nat} {a a' : Option Addr} {n cap n' cap' : Nat} {cs cs' : List Value} (h : OwnR w B e s a n cap cs) (h' : OwnR w C e' s' a' n' cap' cs') (he : e ≠ e') : ∀ k, a.map (·.block) = some k → a'.map (·.block) ≠ some k := by
  intro k hk hk'
  obtain ⟨-, -, cur, h1⟩ := h.lt hk
  obtain ⟨-, -, cur', h2⟩ := h'.lt hk'
  rw [h1] at h2
  simp at h2
  exact he h2.2
theorem Tab.grown {w w2 : World} {B C p b x G : Nat} {z : List Cl} {e : TypeId} {s : Nat} {a : Option Addr} {n cap : Nat} {cs : List Value} (h : Tab w B p b x G z) (h' : OwnR w C e s a n cap cs) (hg : w.grownBy w2 (a.map (·.block))) (h1 : e ≠ 88) (h2 : e ≠ 96) : Tab w2 B p b x G z := by
  refine ⟨h.top.kept (hg.block p h.top.lt ?_), h.row.kept (hg.block b h.row.lt ?_), h.low, h.lowb, h.inv, h.seed, h.siz⟩
  · intro hk
    obtain ⟨-, -, cur, h3⟩ := h'.lt hk.symm
    rw [h.top.blk] at h3
    simp at h3
    exact h1 h3.2.symm
  · intro hk
    obtain ⟨-, -, cur, h3⟩ := h'.lt hk.symm
    obtain ⟨cs, h4, -⟩ := h.row.ex
    rw [h4] at h3
    simp at h3
    exact h2 h3.2.symm

/-- All is as it was, but for a table and the row of its groups, and what is new. -/
structure Moves (w w' : World) (p b : Nat) : Prop where
  os : w'.os = w.os
  tape : w'.tape = w.tape
  output : w'.output = w.output
  size : w.heap.size ≤ w'.heap.size
  block : ∀ k, k < w.heap.size → k ≠ p → k ≠ b → w'.heap[k]? = w.heap[k]?
theorem Moves.refl (w : World) (p b : Nat) : Moves w w p b := ⟨rfl, rfl, rfl, Nat.le_refl _, fun _ _ _ _ => rfl⟩
theorem Moves.of_below {w w' : World} (h : Below w.heap.size w w') (p b : Nat) : Moves w w' p b := ⟨h.os, h.tape, h.output, h.size, fun k hk _ _ => h.block k hk⟩
/-- Two steps: the second one's row is the first's, or it is new. -/
theorem Moves.trans {w w1 w2 : World} {p b b1 : Nat} (h : Moves w w1 p b) (k : Moves w1 w2 p b1) (hb : b1 = b ∨ w.heap.size ≤ b1) : Moves w w2 p b :=
  ⟨k.os.trans h.os, k.tape.trans h.tape, k.output.trans h.output, Nat.le_trans h.size k.size, fun i hi h1 h2 =>
    (k.block i (Nat.lt_of_lt_of_le hi h.size) h1 (by rcases hb with rfl | hb <;> omega)).trans (h.block i hi h1 h2)⟩
theorem Moves.below {w w' : World} {B p b : Nat} (h : Moves w w' p b) (hp : B ≤ p) (hb : B ≤ b) (hs : B ≤ w.heap.size) : Below B w w' :=
  ⟨h.os, h.tape, h.output, h.size, fun k hk => h.block k (Nat.lt_of_lt_of_le hk hs) (by omega) (by omega)⟩
theorem Moves.set {w : World} {p b q o : Nat} {v : Value} (hq : q = p ∨ q = b) : Moves w (w.setCell ⟨q, o, none⟩ v) p b :=
  ⟨rfl, rfl, rfl, by simp [World.setCell], fun k _ h1 h2 => Below.heap_setCell _ _ _ _ (by rcases hq with rfl | rfl <;> simpa)⟩
theorem Tab.moves {w w' : World} {B p b x G q b' : Nat} {z : List Cl} (h : Tab w B p b x G z) (hm : Moves w w' q b') (h1 : p ≠ q) (h2 : b ≠ b') (h3 : p ≠ b') (h4 : b ≠ q) : Tab w' B p b x G z :=
  ⟨h.top.kept (hm.block p h.top.lt h1 h3), h.row.kept (hm.block b h.row.lt h4 h2), h.low, h.lowb, h.inv, h.seed, h.siz⟩
theorem OwnR.moves {w w' : World} {B C p b x G : Nat} {z : List Cl} {e : TypeId} {s : Nat} {a : Option Addr} {n cap : Nat} {cs : List Value} (h : OwnR w C e s a n cap cs) (hm : Moves w w' p b) (hT : Tab w B p b x G z) (h1 : e ≠ 88) (h2 : e ≠ 96) : OwnR w' C e s a n cap cs :=
  h.kept fun k hk => by
    obtain ⟨-, hlt, cur, h3⟩ := h.lt hk
    refine hm.block k hlt ?_ ?_
    · rintro rfl
      rw [hT.top.blk] at h3
      simp at h3
      exact h1 h3.2.symm
    · rintro rfl
      obtain ⟨cs, h4, -⟩ := hT.row.ex
      rw [h4] at h3
      simp at h3
      exact h2 h3.2.symm

def scells (ls : List ByteArray) : List Value := ls.map Value.string
def jcells (ls : List Int) : List Value := ls.map (Value.int .i64)
def ecells (es : List En) : List Value := es.flatMap fun e => [.string e.1, .int .i64 e.2]
abbrev OwnS (w : World) (B : Nat) (a : Option Addr) (n cap : Nat) (ls : List ByteArray) : Prop := OwnR w B 9 1 a n cap (scells ls)
abbrev OwnJ (w : World) (B : Nat) (a : Option Addr) (n cap : Nat) (ls : List Int) : Prop := OwnR w B 3 1 a n cap (jcells ls)
abbrev OwnE (w : World) (B : Nat) (a : Option Addr) (n cap : Nat) (es : List En) : Prop := OwnR w B 92 2 a n cap (ecells es)
theorem Try.infoS : (Try.prog.info? 9).map (fun i => (i.zero, i.size, i.bytes)) = some (some (.string ⟨#[]⟩), 1, 16) := by kernel_rfl
theorem Try.infoE : (Try.prog.info? 92).map (fun i => (i.zero, i.size, i.bytes)) = some (some (.agg #[.string ⟨#[]⟩, .int .i64 0]), 2, 24) := by kernel_rfl
theorem eltS : Elt 39 9 1 16 := elt_of Try.underlying39 Try.infoS rfl (by decide)
theorem eltJ : Elt 105 3 1 8 := elt_of Try.underlying105 Try.info3 rfl (by decide)
theorem eltE : Elt 111 92 2 24 := elt_of Try.underlying111 Try.infoE rfl (by decide)
theorem scells_append (l r : List ByteArray) : scells (l ++ r) = scells l ++ scells r := List.map_append ..
theorem jcells_append (l r : List Int) : jcells (l ++ r) = jcells l ++ jcells r := List.map_append ..
theorem ecells_append (l r : List En) : ecells (l ++ r) = ecells l ++ ecells r := List.flatMap_append ..
theorem OwnS.len {w : World} {B : Nat} {a : Option Addr} {n cap : Nat} {ls : List ByteArray} (h : OwnS w B a n cap ls) : ls.length = n := by have := OwnR.len h; simpa [scells] using this
theorem OwnJ.len {w : World} {B : Nat} {a : Option Addr} {n cap : Nat} {ls : List Int} (h : OwnJ w B a n cap ls) : ls.length = n := by have := OwnR.len h; simpa [jcells] using this
theorem ecells_len (es : List En) : (ecells es).length = es.length * 2 := by
  induction es with
  | nil => rfl
  | cons e es ih => rw [ecells, List.flatMap_cons, List.length_append, List.length_cons]; rw [ecells] at ih; rw [ih]; simp; omega
theorem OwnE.len {w : World} {B : Nat} {a : Option Addr} {n cap : Nat} {es : List En} (h : OwnE w B a n cap es) : es.length = n := by have := OwnR.len h; rw [ecells_len] at this; omega
theorem ecells_get (es : List En) (j : Nat) (hj : j < es.length) : (ecells es)[j * 2]? = some (.string (es.getD j (⟨#[]⟩, 0)).1) ∧ (ecells es)[j * 2 + 1]? = some (.int .i64 (es.getD j (⟨#[]⟩, 0)).2) := by
  induction es generalizing j with
  | nil => simp at hj
  | cons e es ih =>
    have e1 : ecells (e :: es) = .string e.1 :: .int .i64 e.2 :: ecells es := rfl
    rw [e1]
    cases j with
    | zero => exact ⟨rfl, rfl⟩
    | succ j =>
      have := ih j (by simpa using hj)
      rw [show (j + 1) * 2 = j * 2 + 1 + 1 by omega, List.getElem?_cons_succ, List.getElem?_cons_succ, List.getElem?_cons_succ, List.getElem?_cons_succ, List.getD_cons_succ]
      exact this
theorem OwnS.cell {w : World} {B : Nat} {a : Option Addr} {n cap : Nat} {ls : List ByteArray} (h : OwnS w B a n cap ls) {j : Nat} (hj : j < n) : ∃ g, a = some ⟨g, 0, none⟩ ∧ w.cell? ⟨g, j, none⟩ = some (.string (ls.getD j ⟨#[]⟩)) := by
  obtain ⟨g, h1, h2⟩ := OwnR.at h (by omega)
  have := OwnS.len h
  refine ⟨g, h1, h2 _ _ ?_⟩
  rw [scells, List.getElem?_map, List.getElem?_eq_getElem (by omega), List.getD_eq_getElem?_getD, List.getElem?_eq_getElem (by omega)]; rfl
theorem OwnJ.cell {w : World} {B : Nat} {a : Option Addr} {n cap : Nat} {ls : List Int} (h : OwnJ w B a n cap ls) {j : Nat} (hj : j < n) : ∃ g, a = some ⟨g, 0, none⟩ ∧ w.cell? ⟨g, j, none⟩ = some (.int .i64 (ls.getD j 0)) := by
  obtain ⟨g, h1, h2⟩ := OwnR.at h (by omega)
  have := OwnJ.len h
  refine ⟨g, h1, h2 _ _ ?_⟩
  rw [jcells, List.getElem?_map, List.getElem?_eq_getElem (by omega), List.getD_eq_getElem?_getD, List.getElem?_eq_getElem (by omega)]; rfl
theorem OwnE.cell {w : World} {B : Nat} {a : Option Addr} {n cap : Nat} {es : List En} (h : OwnE w B a n cap es) {j : Nat} (hj : j < n) : ∃ g, a = some ⟨g, 0, none⟩ ∧ w.cell? ⟨g, j * 2, none⟩ = some (.string (es.getD j (⟨#[]⟩, 0)).1) ∧ w.cell? ⟨g, j * 2 + 1, none⟩ = some (.int .i64 (es.getD j (⟨#[]⟩, 0)).2) := by
  obtain ⟨g, h1, h2⟩ := OwnR.at h (by omega)
  have := OwnE.len h
  have := ecells_get es j (by omega)
  exact ⟨g, h1, h2 _ _ this.1, h2 _ _ this.2⟩

/-- append of one text, one entry, one word, one number. -/
theorem append_s {w : World} {ops : Array Oper} {rest : List Oper} {o : Oper} {ac : Act} {Q : Exit → Act → World → Prop} (hgd : o.guard = none) (s x : Operand) (ho : o.op = .call { callee := .builtin .append, args := #[s, x], argTypes := #[39, 39] })
    (B : Nat) {a : Option Addr} {n cap : Nat} {ls : List ByteArray} (hs : ac.eval s = .slice a n cap) (hown : OwnS w B a n cap ls) {g : Nat} {k : ByteArray} (hx : ac.eval x = .slice (some ⟨g, 0, none⟩) 1 1) (hr : w.cell? ⟨g, 0, none⟩ = some (.string k)) (hb : n + 1 ≤ 1000000) (hB : B ≤ w.heap.size)
    (h : ∀ a2 n2 c2 w2, n2 = n + 1 → Hid (OwnS w2 B a2 n2 c2 (ls ++ [k])) → Hid (w.grownBy w2 (a.map (·.block))) → Hid (Goes w a a2) → wpList Try.prog ops Q rest (ac.put o.dst (.slice a2 n2 c2)) w2) : wpList Try.prog ops Q (o :: rest) ac w := by
  refine append_r hgd s x ho eltS B hs hown [.string k] hx rfl ?_ (by simp [Value.oneCell']) (by decide) (by omega) (by unfold maxLen; omega) hB ?_
  · intro j u hu
    cases j with
    | zero => rw [add_flat, hr]; exact hu
    | succ j => simp at hu
  · intro a2 n2 c2 w2 h1 h2
    rw [show scells ls ++ [.string k] = scells (ls ++ [k]) by rw [scells_append]; rfl] at h2
    exact h a2 n2 c2 w2 h1 h2
theorem append_j {w : World} {ops : Array Oper} {rest : List Oper} {o : Oper} {ac : Act} {Q : Exit → Act → World → Prop} (hgd : o.guard = none) (s x : Operand) (ho : o.op = .call { callee := .builtin .append, args := #[s, x], argTypes := #[105, 105] })
    (B : Nat) {a : Option Addr} {n cap : Nat} {ls : List Int} (hs : ac.eval s = .slice a n cap) (hown : OwnJ w B a n cap ls) {g : Nat} {k : Int} (hx : ac.eval x = .slice (some ⟨g, 0, none⟩) 1 1) (hr : w.cell? ⟨g, 0, none⟩ = some (.int .i64 k)) (hb : n + 1 ≤ 1000000) (hB : B ≤ w.heap.size)
    (h : ∀ a2 n2 c2 w2, n2 = n + 1 → Hid (OwnJ w2 B a2 n2 c2 (ls ++ [k])) → Hid (w.grownBy w2 (a.map (·.block))) → Hid (Goes w a a2) → wpList Try.prog ops Q rest (ac.put o.dst (.slice a2 n2 c2)) w2) : wpList Try.prog ops Q (o :: rest) ac w := by
  refine append_r hgd s x ho eltJ B hs hown [.int .i64 k] hx rfl ?_ (by simp [Value.oneCell']) (by decide) (by omega) (by unfold maxLen; omega) hB ?_
  · intro j u hu
    cases j with
    | zero => rw [add_flat, hr]; exact hu
    | succ j => simp at hu
  · intro a2 n2 c2 w2 h1 h2
    rw [show jcells ls ++ [.int .i64 k] = jcells (ls ++ [k]) by rw [jcells_append]; rfl] at h2
    exact h a2 n2 c2 w2 h1 h2
theorem append_e {w : World} {ops : Array Oper} {rest : List Oper} {o : Oper} {ac : Act} {Q : Exit → Act → World → Prop} (hgd : o.guard = none) (s x : Operand) (ho : o.op = .call { callee := .builtin .append, args := #[s, x], argTypes := #[111, 111] })
    (B : Nat) {a : Option Addr} {n cap : Nat} {ls : List En} (hs : ac.eval s = .slice a n cap) (hown : OwnE w B a n cap ls) {g : Nat} {k : ByteArray} {v : Int} (hx : ac.eval x = .slice (some ⟨g, 0, none⟩) 1 1) (hr : w.cell? ⟨g, 0, none⟩ = some (.string k)) (hr2 : w.cell? ⟨g, 1, none⟩ = some (.int .i64 v)) (hb : n + 1 ≤ 1000000) (hB : B ≤ w.heap.size)
    (h : ∀ a2 n2 c2 w2, n2 = n + 1 → Hid (OwnE w2 B a2 n2 c2 (ls ++ [(k, v)])) → Hid (w.grownBy w2 (a.map (·.block))) → Hid (Goes w a a2) → wpList Try.prog ops Q rest (ac.put o.dst (.slice a2 n2 c2)) w2) : wpList Try.prog ops Q (o :: rest) ac w := by
  refine append_r hgd s x ho eltE B hs hown [.string k, .int .i64 v] hx rfl ?_ (by simp [Value.oneCell']) (by decide) (by omega) (by unfold maxLen; omega) hB ?_
  · intro j u hu
    match j with
    | 0 => rw [add_flat, hr]; exact hu
    | 1 => rw [add_flat, hr2]; exact hu
    | j + 2 => simp at hu
  · intro a2 n2 c2 w2 h1 h2
    rw [show ecells ls ++ [.string k, .int .i64 v] = ecells (ls ++ [(k, v)]) by rw [ecells_append]; rfl] at h2
    exact h a2 n2 c2 w2 h1 h2
end Go.Proofs.Ytejnmikbbnckeaa
