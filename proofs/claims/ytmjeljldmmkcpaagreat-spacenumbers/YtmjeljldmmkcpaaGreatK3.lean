/- Texts that the others stand on. -/
import Derived.Test.YtmjeljldmmkcpaaGreatK2
import Derived.Maps.AppendAt
set_option maxRecDepth 100000
set_option maxHeartbeats 4000000
namespace Go.Proofs.YtmjeljldmmkcpaaGreat.Dk
open Go.RowKit Go.PlainAid
structure Elt (t e : TypeId) (s by8 : Nat) : Prop where
 und : Tryz.prog.underlying t = some (.slice e)
 inf : ∃ i z, Tryz.prog.info? e = some i ∧ i.zero = some z ∧ i.size = s ∧ i.bytes = by8 ∧ z.cells.size = s
 pos : 0 < s
theorem A4 {t e : TypeId} {s by8 : Nat} {z : Value} (hu : Tryz.prog.underlying t = some (.slice e)) (hi : (Tryz.prog.info? e).map (fun i => (i.zero, i.size, i.bytes)) = some (some z, s, by8)) (hz : z.cells.size = s) (hp : 0 < s) : Elt t e s by8 := by
 obtain ⟨i, h1, h2, h3, h4⟩ := info_parts hi
 exact ⟨hu, ⟨i, z, h1, h2, h3, h4, hz⟩, hp⟩
def OwnR (w : World) (B : Nat) (e : TypeId) (s : Nat) (a : Option Addr) (n cap : Nat) (cs : List Value) : Prop := w.ownsRow B e s (.slice a n cap) n cs
theorem OwnR.nil (w : World) (B : Nat) (e : TypeId) (s : Nat) : OwnR w B e s none 0 0 [] := World.ownsRow_nil w B e s
theorem OwnR.len {w : World} {B : Nat} {e : TypeId} {s : Nat} {a : Option Addr} {n cap : Nat} {cs : List Value} (h : OwnR w B e s a n cap cs) : cs.length = n * s := h.1
theorem OwnR.lt {w : World} {B : Nat} {e : TypeId} {s : Nat} {a : Option Addr} {n cap : Nat} {cs : List Value} (h : OwnR w B e s a n cap cs) {k : Nat} (hk : a.map (·.block) = some k) : B ≤ k ∧ k < w.heap.size ∧ ∃ cur, w.heap[k]? = some (.cells cur e (0, 0)) := by
 rcases h.2 with ⟨h2, h3⟩ | ⟨g, c, cur, h1, h3, h4, h5⟩
 ·cases h2; cases hk
 ·cases h1
  cases hk
  exact ⟨h3, (Array.getElem?_eq_some_iff.1 h4).1, cur, h4⟩
theorem OwnR.kept {w wn : World} {B : Nat} {e : TypeId} {s : Nat} {a : Option Addr} {n cap : Nat} {cs : List Value} (h : OwnR w B e s a n cap cs) (hb : ∀ k, a.map (·.block) = some k → wn.heap[k]? = w.heap[k]?) : OwnR wn B e s a n cap cs := by
 refine ⟨h.1, ?_⟩
 rcases h.2 with h2 | ⟨g, c, cur, h1, h3, h4, h5⟩
 ·exact .inl h2
 ·refine .inr ⟨g, c, cur, h1, h3, ?_, h5⟩
  cases h1
  rw [hb g rfl]; exact h4
theorem OwnR.keep {w wn : World} {B : Nat} {e : TypeId} {s : Nat} {a : Option Addr} {n cap : Nat} {cs : List Value} (h : OwnR w B e s a n cap cs) (hb : Below w.heap.size w wn) : OwnR wn B e s a n cap cs :=
 h.kept fun k hk => hb.block k (h.lt hk).2.1
theorem OwnR.low {w : World} {B C : Nat} {e : TypeId} {s : Nat} {a : Option Addr} {n cap : Nat} {cs : List Value} (h : OwnR w B e s a n cap cs) (hC : C ≤ B) : OwnR w C e s a n cap cs := by
 refine ⟨h.1, ?_⟩
 rcases h.2 with h2 | ⟨g, c, cur, h1, h3, h4⟩
 ·exact .inl h2
 ·exact .inr ⟨g, c, cur, h1, Nat.le_trans hC h3, h4⟩
theorem OwnR.cap {w : World} {B : Nat} {e : TypeId} {s : Nat} {a : Option Addr} {n cap : Nat} {cs : List Value} (h : OwnR w B e s a n cap cs) : n ≤ cap ∧ cap ≤ maxLen := by
 rcases h.2 with ⟨h2, h3⟩ | ⟨g, c, cur, h1, h3, h4, h5, h6, h7⟩
 ·cases h2; exact ⟨by omega, by decide⟩
 ·cases h1; exact ⟨h5, h6⟩
theorem OwnR.at {w : World} {B : Nat} {e : TypeId} {s : Nat} {a : Option Addr} {n cap : Nat} {cs : List Value} (h : OwnR w B e s a n cap cs) (hn : 0 < n) : ∃ g, a = some ⟨g, 0, none⟩ ∧ ∀ j u, cs[j]? = some u → w.cell? ⟨g, j, none⟩ = some u := by
 rcases h.2 with ⟨h2, h3⟩ | ⟨g, c, cur, h1, h3, h4, h5, h6, h7, h8⟩
 ·omega
 ·cases h1
  refine ⟨g, rfl, fun j u hu => ?_⟩
  have := World.ownsRow.cells (w := w) h (g := g) rfl j u hu
  rw [Af, Nat.zero_add] at this
  exact this
def Goes (w : World) (a a2 : Option Addr) : Prop := a2.map (·.block) = a.map (·.block) ∨ a2.map (·.block) = some w.heap.size
theorem run_append_r (w : World) (B : Nat) {t e : TypeId} {s by8 : Nat} (F : Elt t e s by8) {a : Option Addr} {n cap : Nat} {cs : List Value} (hown : OwnR w B e s a n cap cs) {ad : Addr} {m c : Nat} (news : List Value) (hl : news.length = m * s)
  (hnews : ∀ j u, news[j]? = some u → w.cell? (ad.add j) = some u) (h1 : ∀ u ∈ news, u.oneCell' = true) (hm : 0 < m) (hb : (n + m) * by8 ≤ 140737488355328) (h63 : n + m ≤ maxLen) (hB : B ≤ w.heap.size) (ty : TypeId) :
  ∃ a2 c2 w2, (Builtin.append_ #[t, t] ty #[.slice a n cap, .slice (some ad) m c]).run Tryz.prog w = .ok (.slice a2 (n + m) c2) w2 ∧ OwnR w2 B e s a2 (n + m) c2 (cs ++ news) ∧ w.grownBy w2 (a.map (·.block)) ∧ Goes w a a2 := by
 obtain ⟨i, z, hi, hz0, hz1, hz2, hz3⟩ := F.inf
 obtain ⟨v', w', k1, k2, k3, -, k5⟩ := run_append_own_at (P := Tryz.prog) w B t ty e i z s by8 F.und hi hz0 hz1 hz2 hz3 F.pos (.slice a n cap) n cs hown ad m c news hl hnews h1 h63 hb hB
 have hblk : (Value.slice a n cap).ownBlock = a.map (·.block) := by cases a <;> rfl
 rw [hblk] at k3 k5
 rcases k2.2 with ⟨rfl, h4⟩ | ⟨g2, c2, cur, rfl, h4⟩
 ·omega
 ·exact ⟨_, _, w', k1, k2, k3, k5⟩
theorem append_r {w : World} {ops : Array Oper} {rest : List Oper} {o : Oper} {ac : Act} {Q : Exit → Act → World → Prop} (hgd : o.guard = none) (s x : Operand) {t e : TypeId} {sz by8 : Nat} (ho : o.op = .call { callee := .builtin .append, args := #[s, x], argTypes := #[t, t] })
  (F : Elt t e sz by8) (B : Nat) {a : Option Addr} {n cap : Nat} {cs : List Value} (hs : ac.eval s = .slice a n cap) (hown : OwnR w B e sz a n cap cs) {ad : Addr} {m c : Nat} (news : List Value) (hx : ac.eval x = .slice (some ad) m c) (hl : news.length = m * sz)
  (hnews : ∀ j u, news[j]? = some u → w.cell? (ad.add j) = some u) (h1 : ∀ u ∈ news, u.oneCell' = true) (hm : 0 < m) (hb : (n + m) * by8 ≤ 140737488355328) (h63 : n + m ≤ maxLen) (hB : B ≤ w.heap.size)
  (h : ∀ a2 n2 c2 w2, n2 = n + m → Hid (OwnR w2 B e sz a2 n2 c2 (cs ++ news)) → Hid (w.grownBy w2 (a.map (·.block))) → Hid (Goes w a a2) → wpList Tryz.prog ops Q rest (ac.put o.dst (.slice a2 n2 c2)) w2) : wpList Tryz.prog ops Q (o :: rest) ac w := by
 obtain ⟨a2, c2, w2, h1, h2, h3, h4⟩ := run_append_r w B F hown (c := c) news hl hnews h1 hm hb h63 hB o.type
 refine wpList_plain hgd fun K hK => ?_
 unfold Oper.wp
 simp [execOp, ho, resolve, invoke, builtin, hs, hx, h1, Result.andThen]
 exact hK _ _ (h a2 _ c2 w2 rfl h2 h3 h4)
theorem OwnR.below {w w2 : World} {B : Nat} {e : TypeId} {s : Nat} {a : Option Addr} {n cap : Nat} {cs : List Value} (h : OwnR w B e s a n cap cs) (hg : w.grownBy w2 (a.map (·.block))) (hB : B ≤ w.heap.size) : Below B w w2 :=
 (Below.refl B w).grown hg hB (fun _ hk => (h.lt hk).1)
structure Ai (w w' : World) (p b : Nat) : Prop where
 os : w'.os = w.os
 tape : w'.tape = w.tape
 output : w'.output = w.output
 size : w.heap.size ≤ w'.heap.size
 block : ∀ k, k < w.heap.size → k ≠ p → k ≠ b → w'.heap[k]? = w.heap[k]?
theorem Ai.of_below {w w' : World} (h : Below w.heap.size w w') (p b : Nat) : Ai w w' p b := ⟨h.os, h.tape, h.output, h.size, fun k hk _ _ => h.block k hk⟩
theorem Ai.trans {w w1 w2 : World} {p b b1 : Nat} (h : Ai w w1 p b) (k : Ai w1 w2 p b1) (hb : b1 = b ∨ w.heap.size ≤ b1) : Ai w w2 p b :=
 ⟨k.os.trans h.os, k.tape.trans h.tape, k.output.trans h.output, Nat.le_trans h.size k.size, fun i hi h1 h2 =>
  (k.block i (Nat.lt_of_lt_of_le hi h.size) h1 (by rcases hb with rfl | hb <;> omega)).trans (h.block i hi h1 h2)⟩
theorem Ai.set {w : World} {p b q o : Nat} {v : Value} (hq : q = p ∨ q = b) : Ai w (w.setCell ⟨q, o, none⟩ v) p b :=
 ⟨rfl, rfl, rfl, by simp [World.setCell], fun k _ h1 h2 => Below.heap_setCell _ _ _ _ (by rcases hq with rfl | rfl <;> simpa)⟩
theorem OwnR.moves {w w' : World} {B C p b x G : Nat} {z : List Cl} {e : TypeId} {s : Nat} {a : Option Addr} {n cap : Nat} {cs : List Value} (h : OwnR w C e s a n cap cs) (hm : Ai w w' p b) (hT : Tab w B p b x G z) (h1 : e ≠ 182) (h2 : e ≠ 226) : OwnR w' C e s a n cap cs :=
 h.kept fun k hk => by
  obtain ⟨-, hlt, cur, h3⟩ := h.lt hk
  refine hm.block k hlt ?_ ?_
  ·rintro rfl
   rw [hT.top.blk] at h3
   simp at h3
   exact h1 h3.2.symm
  ·rintro rfl
   obtain ⟨cs, h4, -⟩ := hT.row.ex
   rw [h4] at h3
   simp at h3
   exact h2 h3.2.symm
def By (ls : List BA) : List Value := ls.map Value.string
def Bs (es : List En) : List Value := es.flatMap fun e => [.string e.1, .pointer e.2]
abbrev OwnS (w : World) (B : Nat) (a : Option Addr) (n cap : Nat) (ls : List BA) : Prop := OwnR w B 9 1 a n cap (By ls)
abbrev OwnE (w : World) (B : Nat) (a : Option Addr) (n cap : Nat) (es : List En) : Prop := OwnR w B 223 2 a n cap (Bs es)
theorem Tryz.infoS : (Tryz.prog.info? 9).map (fun i => (i.zero, i.size, i.bytes)) = some (some (.string ⟨#[]⟩), 1, 16) := by kernel_rfl
theorem Tryz.infoE : (Tryz.prog.info? 223).map (fun i => (i.zero, i.size, i.bytes)) = some (some (.agg #[.string ⟨#[]⟩, .pointer none]), 2, 24) := by kernel_rfl
theorem eltS : Elt 56 9 1 16 := A4 Tryz.underlying56 Tryz.infoS rfl (by decide)
theorem eltE : Elt 254 223 2 24 := A4 Tryz.underlying254 Tryz.infoE rfl (by decide)
theorem Cv (l r : List BA) : By (l ++ r) = By l ++ By r := List.map_append ..
theorem ecells_append (l r : List En) : Bs (l ++ r) = Bs l ++ Bs r := List.flatMap_append ..
theorem OwnS.len {w : World} {B : Nat} {a : Option Addr} {n cap : Nat} {ls : List BA} (h : OwnS w B a n cap ls) : ls.length = n := by have := OwnR.len h; simpa [By] using this
theorem ecells_len (es : List En) : (Bs es).length = es.length * 2 := by
 induction es with
 | nil => rfl
 | cons e es ih => rw [Bs, List.flatMap_cons, List.length_append, List.length_cons]; rw [Bs] at ih; rw [ih]; simp; omega
theorem OwnE.len {w : World} {B : Nat} {a : Option Addr} {n cap : Nat} {es : List En} (h : OwnE w B a n cap es) : es.length = n := by have := OwnR.len h; rw [ecells_len] at this; omega
theorem ecells_get (es : List En) (j : Nat) (hj : j < es.length) : (Bs es)[j * 2]? = some (.string (es.getD j (⟨#[]⟩, none)).1) ∧ (Bs es)[j * 2 + 1]? = some (.pointer (es.getD j (⟨#[]⟩, none)).2) := by
 induction es generalizing j with
 | nil => simp at hj
 | cons e es ih =>
  have e1 : Bs (e :: es) = .string e.1 :: .pointer e.2 :: Bs es := rfl
  rw [e1]
  cases j with
  | zero => exact ⟨rfl, rfl⟩
  | succ j =>
   have := ih j (by simpa using hj)
   rw [show (j + 1) * 2 = j * 2 + 1 + 1 by omega, List.getElem?_cons_succ, List.getElem?_cons_succ, List.getElem?_cons_succ, List.getElem?_cons_succ, List.getD_cons_succ]
   exact this
theorem OwnS.cell {w : World} {B : Nat} {a : Option Addr} {n cap : Nat} {ls : List BA} (h : OwnS w B a n cap ls) {j : Nat} (hj : j < n) : ∃ g, a = some ⟨g, 0, none⟩ ∧ w.cell? ⟨g, j, none⟩ = some (.string (ls.getD j ⟨#[]⟩)) := by
 obtain ⟨g, h1, h2⟩ := OwnR.at h (by omega)
 have := OwnS.len h
 refine ⟨g, h1, h2 _ _ ?_⟩
 rw [By, List.getElem?_map, List.getElem?_eq_getElem (by omega), List.getD_eq_getElem?_getD, List.getElem?_eq_getElem (by omega)]; rfl
theorem OwnE.cell {w : World} {B : Nat} {a : Option Addr} {n cap : Nat} {es : List En} (h : OwnE w B a n cap es) {j : Nat} (hj : j < n) : ∃ g, a = some ⟨g, 0, none⟩ ∧ w.cell? ⟨g, j * 2, none⟩ = some (.string (es.getD j (⟨#[]⟩, none)).1) ∧ w.cell? ⟨g, j * 2 + 1, none⟩ = some (.pointer (es.getD j (⟨#[]⟩, none)).2) := by
 obtain ⟨g, h1, h2⟩ := OwnR.at h (by omega)
 have := OwnE.len h
 have := ecells_get es j (by omega)
 exact ⟨g, h1, h2 _ _ this.1, h2 _ _ this.2⟩
theorem append_s {w : World} {ops : Array Oper} {rest : List Oper} {o : Oper} {ac : Act} {Q : Exit → Act → World → Prop} (hgd : o.guard = none) (s x : Operand) (ho : o.op = .call { callee := .builtin .append, args := #[s, x], argTypes := #[56, 56] })
  (B : Nat) {a : Option Addr} {n cap : Nat} {ls : List BA} (hs : ac.eval s = .slice a n cap) (hown : OwnS w B a n cap ls) {g : Nat} {k : BA} (hx : ac.eval x = .slice (some ⟨g, 0, none⟩) 1 1) (hr : w.cell? ⟨g, 0, none⟩ = some (.string k)) (hb : n + 1 ≤ 1000000) (hB : B ≤ w.heap.size)
  (h : ∀ a2 n2 c2 w2, n2 = n + 1 → Hid (OwnS w2 B a2 n2 c2 (ls ++ [k])) → Hid (w.grownBy w2 (a.map (·.block))) → Hid (Goes w a a2) → wpList Tryz.prog ops Q rest (ac.put o.dst (.slice a2 n2 c2)) w2) : wpList Tryz.prog ops Q (o :: rest) ac w := by
 refine append_r hgd s x ho eltS B hs hown [.string k] hx rfl ?_ (by simp [Value.oneCell']) (by decide) (by omega) (by unfold maxLen; omega) hB ?_
 ·intro j u hu
  cases j with
  | zero => rw [Af, hr]; exact hu
  | succ j => simp at hu
 ·intro a2 n2 c2 w2 h1 h2
  rw [show By ls ++ [.string k] = By (ls ++ [k]) by rw [Cv]; rfl] at h2
  exact h a2 n2 c2 w2 h1 h2
theorem append_e {w : World} {ops : Array Oper} {rest : List Oper} {o : Oper} {ac : Act} {Q : Exit → Act → World → Prop} (hgd : o.guard = none) (s x : Operand) (ho : o.op = .call { callee := .builtin .append, args := #[s, x], argTypes := #[254, 254] })
  (B : Nat) {a : Option Addr} {n cap : Nat} {ls : List En} (hs : ac.eval s = .slice a n cap) (hown : OwnE w B a n cap ls) {g : Nat} {k : BA} {v : (Option Addr)} (hx : ac.eval x = .slice (some ⟨g, 0, none⟩) 1 1) (hr : w.cell? ⟨g, 0, none⟩ = some (.string k)) (hr2 : w.cell? ⟨g, 1, none⟩ = some (.pointer v)) (hb : n + 1 ≤ 1000000) (hB : B ≤ w.heap.size)
  (h : ∀ a2 n2 c2 w2, n2 = n + 1 → Hid (OwnE w2 B a2 n2 c2 (ls ++ [(k, v)])) → Hid (w.grownBy w2 (a.map (·.block))) → Hid (Goes w a a2) → wpList Tryz.prog ops Q rest (ac.put o.dst (.slice a2 n2 c2)) w2) : wpList Tryz.prog ops Q (o :: rest) ac w := by
 refine append_r hgd s x ho eltE B hs hown [.string k, .pointer v] hx rfl ?_ (by simp [Value.oneCell']) (by decide) (by omega) (by unfold maxLen; omega) hB ?_
 ·intro j u hu
  match j with
  | 0 => rw [Af, hr]; exact hu
  | 1 => rw [Af, hr2]; exact hu
  | j + 2 => simp at hu
 ·intro a2 n2 c2 w2 h1 h2
  rw [show Bs ls ++ [.string k, .pointer v] = Bs (ls ++ [(k, v)]) by rw [ecells_append]; rfl] at h2
  exact h a2 n2 c2 w2 h1 h2
theorem range_count {α : Type} (p : α → Bool) (d : α) (l : List α) : ((List.range l.length).filter (fun i => p (l.getD i d))).length = (l.filter p).length := by
 induction l with
 | nil => rfl
 | cons a l ih =>
  rw [List.length_cons, List.range_succ_eq_map, List.filter_cons, List.filter_map, List.filter_cons]
  have e : (fun i => p ((a :: l).getD i d)) ∘ Nat.succ = fun i => p (l.getD i d) := rfl
  rw [e, List.getD_cons_zero]
  split
  ·rw [List.length_cons, List.length_cons, List.length_map, ih]
  ·rw [List.length_map, ih]
def grp (z : List Cl) (g : Nat) : List Cl := (z.drop (8 * g)).take 8
theorem take_grp (z : List Cl) (g : Nat) : z.take (8 * (g + 1)) = z.take (8 * g) ++ grp z g := by
 rw [show 8 * (g + 1) = 8 * g + 8 by omega, List.take_add]; rfl
theorem slots_count {z : List Cl} {G g : Nat} (hz : z.length = 8 * G) (hg : g < G) (p : Nat → Bool) : (Ap (fun i => p ((wrd z g).getD i 0)) 8).length = ((grp z g).filter (fun c => p c.1)).length := by
 have hl : (grp z g).length = 8 := by unfold grp; rw [List.length_take, List.length_drop]; omega
 rw [← range_count (fun c : Cl => p c.1) noC (grp z g), hl]
 unfold Ap
 congr 1
 refine List.filter_congr fun i hi => ?_
 rw [List.mem_range] at hi
 rw [Bb hz hg hi, cel, List.getD_eq_getElem?_getD, List.getD_eq_getElem?_getD, grp, List.getElem?_take, if_pos hi, List.getElem?_drop]
theorem count_full {z : List Cl} {G g : Nat} (hz : z.length = 8 * G) (hg : g < G) : (Ap (ful (wrd z g)) 8).length = (ents (grp z g)).length := by
 have := slots_count hz hg (fun b => !decide (128 ≤ b))
 unfold ents
 rw [List.length_map]
 refine Eq.trans this (congrArg List.length (List.filter_congr fun c _ => ?_))
 unfold full
 by_cases h : c.1 < 128
 ·rw [decide_eq_true h, decide_eq_false (by omega)]; rfl
 ·rw [decide_eq_false h, decide_eq_true (by omega)]; rfl
theorem count_gone {z : List Cl} {G g : Nat} (hz : z.length = 8 * G) (hg : g < G) : (Ap (has (wrd z g) 254) 8).length = dels (grp z g) := slots_count hz hg (fun b => decide (b = 254))
theorem len_take {z : List Cl} {G g : Nat} (hz : z.length = 8 * G) (hg : g < G) : (ents (z.take (8 * (g + 1)))).length = (ents (z.take (8 * g))).length + (Ap (ful (wrd z g)) 8).length := by
 rw [take_grp, Aw, List.length_append, count_full hz hg]
theorem dels_take {z : List Cl} {G g : Nat} (hz : z.length = 8 * G) (hg : g < G) : dels (z.take (8 * (g + 1))) = dels (z.take (8 * g)) + (Ap (has (wrd z g) 254) 8).length := by
 rw [take_grp, Cm, count_gone hz hg]
theorem dels_le (z : List Cl) : dels z ≤ z.length := List.length_filter_le _ _
theorem Len_any (B p b x G : Nat) (z : List Cl) (w : World) (hT : Tab w B p b x G z) : Calls Tryz.prog 166 #[ptr p] w fun e w' => e = .returned (.int .i64 ((ents z).length : Nat)) ∧ w' = w := by
 have hc := hT.top.groups
 have hG := hT.inv.grp.le
 have HT : Hid (Tab w B p b x G z) := hT
 have HL : Hid (z.length = 8 * G) := hT.inv.len
 clear hT
 go_enter Tryz.func166, Tryz.ntmps166
 go_wp2
 go_loopg [3, 4, 10] G (fun q nv iv jv wr => w = wr ∧ ∃ g : Nat, g + q = G ∧ jv = .int .i64 g ∧ nv = .int .i64 ((ents (z.take (8 * g))).length : Nat))
 case atStart => exact ⟨rfl, 0, by omega, rfl, rfl⟩
 case round =>
  obtain ⟨rfl, g, hg, rfl, rfl⟩ := hrel
  by_cases h8 : (g : Int) < G
  ·have hgG : g < G := by omega
   have hw := HT.out.row.word hgG
   have HC := fun w => Count_any (HT.out.inv.ok hgG) w
   have HN : Hid ((ents (z.take (8 * (g + 1)))).length = (ents (z.take (8 * g))).length + (Ap (ful (wrd z g)) 8).length) := len_take HL.out hgG
   have hl1 := Cu (ful (wrd z g)) 8
   have hl2 : (ents (z.take (8 * g))).length ≤ 128 := by
    have := ents_len_le (z.take (8 * g))
    rw [List.length_take] at this
    have := HL.out
    omega
   generalize (ents (z.take (8 * g))).length = n at HN hl2 ⊢
   generalize (Ap (ful (wrd z g)) 8).length = m at HN hl1 HC
   generalize val (wrd z g) = wv at hw HC
   go_wp2_with fail
   refine (HC _).mono ?_
   rintro e w ⟨rfl, rfl⟩
   go_wp2
   go_roundg (gk - 1)
   case measure => omega
   case rel => exact ⟨rfl, g + 1, by omega, by go_num, by rw [HN.out]; go_num⟩
  ·have HE : Hid (z.take (8 * g) = z) := by show _ = _; rw [List.take_of_length_le (by have := HL.out; omega)]
   rw [HE.out]
   go_wp2
   go_ret
   exact ⟨rfl, rfl⟩
theorem Marks_any (B p b x G : Nat) (z : List Cl) (w : World) (hT : Tab w B p b x G z) : Calls Tryz.prog 206 #[ptr p] w fun e w' => e = .returned (.int .i64 (dels z : Nat)) ∧ Below w.heap.size w w' := by
 have hc := hT.top.groups
 have hG := hT.inv.grp.le
 have HT : Hid (Tab w B p b x G z) := hT
 have HL : Hid (z.length = 8 * G) := hT.inv.len
 have HB : Hid (Below w.heap.size w w) := Below.refl _ _
 clear hT
 go_enter Tryz.func206, Tryz.ntmps206
 go_wp2
 clear hc
 go_loopg [3, 4, 10] G (fun q nv iv jv wr => ∃ g : Nat, g + q = G ∧ jv = .int .i64 g ∧ nv = .int .i64 (dels (z.take (8 * g)) : Nat) ∧ Hid (Below w.heap.size w wr))
 case atStart => exact ⟨0, by omega, rfl, rfl, HB⟩
 case round =>
  clear HB
  obtain ⟨g, hg, rfl, rfl, HB⟩ := hrel
  have HTr : Hid (Tab wr B p b x G z) := HT.out.keep HB.out
  by_cases h8 : (g : Int) < G
  ·have hgG : g < G := by omega
   have hc := HTr.out.top.groups
   have hw := HTr.out.row.word hgG
   have HC := fun w => Match_any (HT.out.inv.ok hgG) 254 (by decide) w
   have HN : Hid (dels (z.take (8 * (g + 1))) = dels (z.take (8 * g)) + (Ap (has (wrd z g) 254) 8).length) := dels_take HL.out hgG
   have hl1 := Cu (has (wrd z g) 254) 8
   have hl2 : dels (z.take (8 * g)) ≤ 128 := by
    have := dels_le (z.take (8 * g))
    rw [List.length_take] at this
    have := HL.out
    omega
   generalize dels (z.take (8 * g)) = n at HN hl2 ⊢
   generalize Ap (has (wrd z g) 254) 8 = ms at HN hl1 HC
   generalize val (wrd z g) = wv at hw HC
   go_wp2_with fail
   refine (HC _).mono ?_
   rintro e w1 ⟨hb, a1, n1, c1, rfl, hO⟩
   have H1 := Ad HB hb
   have hn1 : ms.length = n1 := hO.len
   have HN1 : Hid (ms.length = n1) := hn1
   rw [hn1] at hl1
   clear hb hO hn1
   go_wp2
   go_roundg (gk - 1)
   case measure => omega
   case rel => exact ⟨g + 1, by omega, by go_num, by rw [HN.out, HN1.out]; go_num, H1⟩
  ·have HE : Hid (z.take (8 * g) = z) := by show _ = _; rw [List.take_of_length_le (by have := HL.out; omega)]
   rw [HE.out]
   go_wp2
   go_ret
   exact ⟨rfl, HB.out⟩
theorem full_any (B p b x G : Nat) (z : List Cl) (w : World) (hT : Tab w B p b x G z) : Calls Tryz.prog 197 #[ptr p] w fun e w' => Below w.heap.size w w' ∧ ∃ a n c, e = .returned (.slice a n c) ∧ OwnE w' w.heap.size a n c (ents z) := by
 have hc := hT.top.groups
 have hG := hT.inv.grp.le
 have HT : Hid (Tab w B p b x G z) := hT
 have HL : Hid (z.length = 8 * G) := hT.inv.len
 have HB : Hid (Below w.heap.size w w) := Below.refl _ _
 have HO : Hid (OwnE w w.heap.size none 0 0 (ents (z.take (8 * 0)))) := OwnR.nil _ _ _ _
 clear hT
 go_enter Tryz.func197, Tryz.ntmps197
 go_wp2
 clear hc
 go_loopg [3, 4, 5, 11, 14] G (fun q sv iv ev jv kv wr => ∃ (g : Nat) (a : Option Addr) (n c : Nat), g + q = G ∧ jv = .int .i64 g ∧ sv = .slice a n c ∧ Hid (OwnE wr w.heap.size a n c (ents (z.take (8 * g)))) ∧ Hid (Below w.heap.size w wr))
 case atStart => exact ⟨0, none, 0, 0, by omega, rfl, rfl, HO, HB⟩
 case round =>
  clear HB HO
  obtain ⟨g, a, n, c, hg, rfl, rfl, HO, HB⟩ := hrel
  obtain ⟨ga, hga⟩ : ∃ ga, ga = gk := ⟨_, rfl⟩
  subst hga
  obtain ⟨wa, hwa⟩ : ∃ wa, wa = wr := ⟨_, rfl⟩
  subst hwa
  have HK : Hid (g + ga = G) := hg
  by_cases h8 : (g : Int) < G
  ·have hgG : g < G := by omega
   clear hg
   go_wp2
   go_loopg [3, 5, 14] 8 (fun q sv iv jv wr => ∃ (i : Nat) (a : Option Addr) (n c : Nat), i + q = 8 ∧ jv = .int .i64 i ∧ sv = .slice a n c ∧ Hid (OwnE wr w.heap.size a n c (ents (z.take (8 * g + i)))) ∧ Hid (Below w.heap.size w wr))
   case atStart => exact ⟨0, a, n, c, by omega, rfl, rfl, HO, HB⟩
   case round =>
    clear HB HO
    obtain ⟨i, a, n, c, hi, rfl, rfl, HO, HB⟩ := hrel
    have HTr : Hid (Tab wr B p b x G z) := HT.out.keep HB.out
    by_cases hi8 : (i : Int) < 8
    ·have hi8' : i < 8 := by omega
     have hc := HTr.out.top.groups
     have hw := HTr.out.row.word hgG
     have hk := HTr.out.row.key hgG hi8'
     have hv := HTr.out.row.vl hgG hi8'
     have HA := fun w => At_in (HT.out.inv.ok hgG) i hi8' w
     rw [Bb HL.out hgG hi8'] at HA
     have hq : 8 * g + i < z.length := by have := HL.out; omega
     have HS : Hid (z.take (8 * g + (i + 1)) = z.take (8 * g + i) ++ [cel z (8 * g + i)]) := by show _ = _; rw [cel_at z hq, ← Nat.add_assoc, List.take_add_one, List.getElem?_eq_getElem hq]; rfl
     have hlt := HT.out.inv.byt' _ (cel_mem z hq)
     have hsz := HB.out.size
     have HN : Hid (n + 1 ≤ 1000000) := by
      have h1 := OwnE.len HO.out
      have h2 := ents_len_le (z.take (8 * g + i))
      rw [List.length_take] at h2
      have := HL.out
      show _ ≤ _
      omega
     generalize val (wrd z g) = wv at hw HA
     generalize cel z (8 * g + i) = cc at hk hv HA HS hlt
     obtain ⟨bt, k, v⟩ := cc
     simp only [] at hk hv HA hlt
     clear hq hi8'
     by_cases hf : bt < 128
     ·have HE : Hid (ents (z.take (8 * g + (i + 1))) = ents (z.take (8 * g + i)) ++ [(k, v)]) := by show _ = _; rw [HS.out, Aw, Ay hf]; rfl
      have hfz : (bt : Int) < 128 := by omega
      go_wp2_with (first | (go_at_call 205; refine (HA _).mono ?_; rintro e wr ⟨rfl, rfl⟩) | (at_builtin; refine append_e rfl (.tmp 28) (.tmp 39) rfl w.heap.size rfl (OwnR.keep HO.out (Ac wr _)) rfl (by simp; rfl) (by simp; rfl) HN.out (Nat.le_trans hsz (Ac wr _).size) ?_; intro a3 n3 c3 w3 hn3 HO3 HG3 HW3; have HB3 : Hid (Below w.heap.size w w3) := (HB.out.trans ((Ac wr _).mono hsz)).trans ((OwnR.keep HO.out (Ac wr _)).below HG3.out (Nat.le_trans hsz (Ac wr _).size))))
      go_roundg (gk - 1)
      case measure => omega
      case rel => exact ⟨i + 1, _, _, _, by omega, by go_num, rfl, by rw [HE.out, ← hn3]; exact HO3, HB3⟩
     ·have HE : Hid (ents (z.take (8 * g + (i + 1))) = ents (z.take (8 * g + i))) := by show _ = _; rw [HS.out, Aw, Bt (by omega : 128 ≤ bt)]; exact List.append_nil _
      have hfz : ¬ (bt : Int) < 128 := by omega
      go_wp2_with fail
      refine (HA _).mono ?_
      rintro e wr ⟨rfl, rfl⟩
      go_wp2
      go_roundg (gk - 1)
      case measure => omega
      case rel => exact ⟨i + 1, _, _, _, by omega, by go_num, rfl, by rw [HE.out]; exact HO, HB⟩
    ·have HE : Hid (8 * (g + 1) = 8 * g + i) := by show _ = _; omega
     go_wp2
     go_roundg (ga - 1)
     case measure => have := HK.out; omega
     case rel => exact ⟨g + 1, _, _, _, by have := HK.out; omega, by go_num, rfl, by rw [HE.out]; exact HO, HB⟩
  ·have HE : Hid (z.take (8 * g) = z) := by show _ = _; rw [List.take_of_length_le (by have := HL.out; omega)]
   rw [HE.out] at HO
   go_wp2
   go_ret
   exact ⟨HB.out, _, _, _, rfl, HO.out⟩
theorem alloc2_below (w : World) (o1 o2 : Obj) : Below w.heap.size w ((w.alloc o1).alloc o2) := (Ac w o1).trans ((Ac _ o2).mono (Ac w o1).size)
theorem Bx {α : Type} (l : List α) (d : α) (k : Nat) (h : k < l.length) : l.take (k + 1) = l.take k ++ [l.getD k d] := by
 rw [List.take_add_one, List.getD_eq_getElem?_getD, List.getElem?_eq_getElem h]; rfl
theorem Keys_any (B p b x G : Nat) (z : List Cl) (w : World) (hT : Tab w B p b x G z) : Calls Tryz.prog 156 #[ptr p] w fun e w' => Below w.heap.size w w' ∧ ∃ a n c, e = .returned (.slice a n c) ∧ OwnS w' w.heap.size a n c ((ents z).map (·.1)) := by
 have HF := full_any B p b x G z w hT
 have HN : Hid ((ents z).length ≤ 200) := by
  have h1 := ents_len_le z
  have h2 := hT.inv.len
  have h3 := hT.inv.grp.le
  show _ ≤ _
  omega
 clear hT
 generalize ents z = es at HF HN ⊢
 go_enter Tryz.func156, Tryz.ntmps156
 go_wp2_with fail
 refine HF.mono ?_
 rintro e w1 ⟨hb, ae, ne, ce, rfl, hE⟩
 have HE : Hid (OwnE w1 w.heap.size ae ne ce es) := hE
 have HL : Hid (es.length = ne) := OwnE.len hE
 have HB1 : Hid (Below w.heap.size w w1) := hb
 have hne : ne ≤ 200 := by have := HN.out; have := HL.out; omega
 have HO : Hid (OwnS w1 w1.heap.size none 0 0 ((es.take 0).map (·.1))) := OwnR.nil _ _ _ _
 clear hE hb
 go_wp2
 go_loopg [3, 5, 9] ne (fun q sv iv jv wr => ∃ (i : Nat) (a : Option Addr) (n c : Nat), i + q = ne ∧ jv = .int .i64 i ∧ sv = .slice a n c ∧ Hid (OwnS wr w1.heap.size a n c ((es.take i).map (·.1))) ∧ Hid (Below w1.heap.size w1 wr))
 case atStart => exact ⟨0, none, 0, 0, by omega, rfl, rfl, HO, Below.refl _ _⟩
 case round =>
  clear HO
  obtain ⟨i, a, n, c, hi, rfl, rfl, HO, HB⟩ := hrel
  by_cases h8 : (i : Int) < ne
  ·obtain ⟨g, ha, hk, hv⟩ := OwnE.cell (OwnR.keep HE.out HB.out) (j := i) (by omega)
   subst ha
   have HS : Hid (es.take (i + 1) = es.take i ++ [es.getD i (⟨#[]⟩, none)]) := Bx es _ i (by have := HL.out; omega)
   generalize es.getD i (⟨#[]⟩, none) = ev at hk hv HS
   obtain ⟨k, v⟩ := ev
   simp only [] at hk hv
   have HE1 : Hid ((es.take (i + 1)).map (·.1) = (es.take i).map (·.1) ++ [k]) := by show _ = _; rw [HS.out, List.map_append]; rfl
   have hsz := HB.out.size
   have HN1 : Hid (n + 1 ≤ 1000000) := by
    have h1 := OwnS.len HO.out
    rw [List.length_map, List.length_take] at h1
    show _ ≤ _
    omega
   go_wp2_with (at_builtin; refine append_s rfl (.tmp 13) (.tmp 16) rfl w1.heap.size rfl (OwnR.keep HO.out (alloc2_below wr _ _)) rfl (by simp; rfl) HN1.out (Nat.le_trans hsz (alloc2_below wr _ _).size) ?_; intro a3 n3 c3 w3 hn3 HO3 HG3 HW3; have HB3 : Hid (Below w1.heap.size w1 w3) := (HB.out.trans ((alloc2_below wr _ _).mono hsz)).trans ((OwnR.keep HO.out (alloc2_below wr _ _)).below HG3.out (Nat.le_trans hsz (alloc2_below wr _ _).size)))
   go_roundg (gk - 1)
   case measure => omega
   case rel => exact ⟨i + 1, _, _, _, by omega, by go_num, rfl, by rw [HE1.out, ← hn3]; exact HO3, HB3⟩
  ·have HE : Hid (es.take i = es) := by show _ = _; rw [List.take_of_length_le (by have := HL.out; omega)]
   rw [HE.out] at HO
   go_wp2
   go_ret
   exact ⟨HB1.out.trans (HB.out.mono HB1.out.size), _, _, _, rfl, HO.out.low HB1.out.size⟩
end Go.Proofs.YtmjeljldmmkcpaaGreat.Dk
