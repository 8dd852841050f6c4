/-
  Rows of bytes in memory: a slice that reads the bytes l (Rd), a row of the call's own (Own), what append makes of it.
-/
import Derived.Test.YtlapiaoopmhogaaDoorRefParse
import Derived.Lib.ConvBytes
import Derived.Lib.AppendStr
import Derived.Deep.OwnRows
import Derived.Deep.CutRange
import Derived.Laws.AppendOwnNone
import Derived.Deep.QuietTactic
import Derived.BigQuiet
namespace Go.Proofs.YtlapiaoopmhogaaDoor
open Go.RowKit Go.PlainAid

theorem len_lst (s : ByteArray) : (lst s).length = s.size := rfl
theorem append_bs (l r : List UInt8) : bs l ++ bs r = bs (l ++ r) := ByteArray.mk_append_mk l r
theorem byte_le (b : UInt8) {c : Int} (h : (b.toNat : Int) = c) : 0 ≤ c ∧ c ≤ 255 := by have := b.toNat_lt; omega
theorem below_drewN (w : World) : ∀ n, Below w.heap.size w (w.drewN n)
  | 0 => Below.refl _ _
  | n + 1 => (below_drewN w n).drew
theorem step_below {w w1 w2 : World} (h : Hid (Below w.heap.size w w1)) (hb : Below w1.heap.size w1 w2) : Hid (Below w.heap.size w w2) := h.out.trans (hb.mono h.out.size)

/-- A slice that reads the bytes l. -/
structure Rd (w : World) (a : Option Addr) (n cap : Nat) (l : List UInt8) : Prop where
  len : l.length = n
  fit : n ≤ cap
  max : cap ≤ maxLen
  nul : a = none → cap = 0
  cell : ∀ j, j < n → ∃ b off, a = some ⟨b, off, none⟩ ∧ w.cell? ⟨b, off + j, none⟩ = some (.int .u8 ((l.getD j 0).toNat : Nat))

theorem Rd.keep {w wn : World} {a : Option Addr} {n cap : Nat} {l : List UInt8} (h : Rd w a n cap l) (hb : Below w.heap.size w wn) : Rd wn a n cap l :=
  ⟨h.len, h.fit, h.max, h.nul, fun j hj => by
    obtain ⟨b, off, e, hc⟩ := h.cell j hj
    exact ⟨b, off, e, by rw [hb.cell (p := ⟨b, off + j, none⟩) (World.block_lt_of_cell? _ _ hc)]; exact hc⟩⟩
theorem Rd.nil (w : World) : Rd w none 0 0 [] := ⟨rfl, Nat.le_refl _, by decide, fun _ => rfl, fun j hj => absurd hj (Nat.not_lt_zero _)⟩

theorem add_flat (b off j : Nat) : (⟨b, off, none⟩ : Addr).add j = ⟨b, off + j, none⟩ := by simp only [Addr.add]; split <;> simp_all

/-- A part of it. -/
theorem Rd.sub {w : World} {a : Option Addr} {n cap : Nat} {l : List UInt8} (h : Rd w a n cap l) (lo hi : Nat) (h1 : lo ≤ hi) (h2 : hi ≤ n) :
    Rd w (if cap = lo then a else a.map (·.add (lo * 1))) (hi - lo) (cap - lo) ((l.drop lo).take (hi - lo)) := by
  refine ⟨?_, ?_, ?_, fun hn => ?_, fun j hj => ?_⟩
  · rw [List.length_take, List.length_drop, h.len]; omega
  · have := h.fit; omega
  · have := h.max; omega
  · cases a with
    | none => have := h.nul rfl; omega
    | some x => split at hn <;> simp at hn
  · obtain ⟨b, off, e, hc⟩ := h.cell (lo + j) (by omega)
    subst e
    have hne : ¬ cap = lo := by have := h.fit; omega
    refine ⟨b, off + lo, ?_, ?_⟩
    · rw [if_neg hne, Option.map_some, Nat.mul_one, add_flat]
    · rw [Nat.add_assoc, hc, List.getD_eq_getElem?_getD, List.getD_eq_getElem?_getD, List.getElem?_take, if_pos hj, List.getElem?_drop]

theorem Tryd.size5 (w : World) : (sizeOf 5).run Tryd.prog w = .ok 1 w := by go_simp
theorem Tryd.elem33 : Tryd.prog.elem 33 = 5 := by simp [Program.elem, Tryd.underlying33]

theorem Rd.slice_lh {w : World} {a : Option Addr} {n cap : Nat} {l : List UInt8} (h : Rd w a n cap l) (lo hi : Nat) (h1 : lo ≤ hi) (h2 : hi ≤ n) :
    ∃ a' cap', (∀ wx, (Instr.sliceAt 33 (.slice a n cap) (some (.int .i64 lo)) (some (.int .i64 hi)) none).run Tryd.prog wx = .ok (.slice a' (hi - lo) cap') wx) ∧ Rd w a' (hi - lo) cap' ((l.drop lo).take (hi - lo)) := by
  refine ⟨_, _, fun wx => ?_, h.sub lo hi h1 h2⟩
  have ht : Tryd.prog.underlying 33 = some (.slice (Tryd.prog.elem 33)) := by rw [Tryd.elem33]; exact Tryd.underlying33
  rw [run_sliceAt_slice _ _ _ _ _ _ ht, run_slice_lh (P := Tryd.prog) wx 33 a n cap ht .i64 .i64 lo hi (by omega) (by omega) (by have := h.fit; omega), Tryd.elem33, Tryd.size5]
  simp [Result.andThen, sliced]
theorem Rd.slice_l {w : World} {a : Option Addr} {n cap : Nat} {l : List UInt8} (h : Rd w a n cap l) (lo : Nat) (h1 : lo ≤ n) :
    ∃ a' cap', (∀ wx, (Instr.sliceAt 33 (.slice a n cap) (some (.int .i64 lo)) none none).run Tryd.prog wx = .ok (.slice a' (n - lo) cap') wx) ∧ Rd w a' (n - lo) cap' (l.drop lo) := by
  have hs := h.sub lo n h1 (Nat.le_refl _)
  rw [List.take_of_length_le (by rw [List.length_drop, h.len]; omega)] at hs
  refine ⟨_, _, fun wx => ?_, hs⟩
  have ht : Tryd.prog.underlying 33 = some (.slice (Tryd.prog.elem 33)) := by rw [Tryd.elem33]; exact Tryd.underlying33
  rw [run_sliceAt_slice _ _ _ _ _ _ ht, run_slice_l (P := Tryd.prog) wx 33 a n cap ht .i64 lo (by omega) (by omega), Tryd.elem33, Tryd.size5]
  simp [Result.andThen, sliced]
theorem Rd.slice_h {w : World} {a : Option Addr} {n cap : Nat} {l : List UInt8} (h : Rd w a n cap l) (hi : Nat) (h1 : hi ≤ n) :
    ∃ a' cap', (∀ wx, (Instr.sliceAt 33 (.slice a n cap) none (some (.int .i64 hi)) none).run Tryd.prog wx = .ok (.slice a' hi cap') wx) ∧ Rd w a' hi cap' (l.take hi) := by
  have hs := h.sub 0 hi (Nat.zero_le _) h1
  rw [List.drop_zero, Nat.sub_zero, Nat.sub_zero] at hs
  refine ⟨_, _, fun wx => ?_, hs⟩
  have ht : Tryd.prog.underlying 33 = some (.slice (Tryd.prog.elem 33)) := by rw [Tryd.elem33]; exact Tryd.underlying33
  rw [run_sliceAt_slice _ _ _ _ _ _ ht, run_slice_h (P := Tryd.prog) wx 33 a n cap ht .i64 hi (by omega) (by have := h.fit; omega), Tryd.elem33, Tryd.size5]
  simp [Result.andThen, sliced]

/-- string(b). -/
theorem Rd.text {w : World} {a : Option Addr} {n cap : Nat} {l : List UInt8} (h : Rd w a n cap l) : (convert 33 9 (.slice a n cap)).run Tryd.prog w = .ok (.string (bs l)) w := by
  have hn := h.len
  subst hn
  cases a with
  | none =>
    have h0 : l = [] := by
      cases l with
      | nil => rfl
      | cons x r =>
        obtain ⟨b, off, e, -⟩ := h.cell 0 (by simp)
        cases e
    subst h0
    rw [run_convert_bytes_string w 33 9 5 none _ cap Tryd.underlying33 Tryd.underlying5 Tryd.underlying9]
    rfl
  | some a =>
    refine run_convert_bytes_back (P := Tryd.prog) w 33 9 5 a cap l Tryd.underlying33 Tryd.underlying5 Tryd.underlying9 fun j hj => ?_
    obtain ⟨b, off, e, hc⟩ := h.cell j hj
    cases e
    rw [add_flat, hc, List.getD_eq_getElem?_getD, List.getElem?_eq_getElem hj, Option.getD_some]

/-- A row's bytes as cells. -/
def cells (l : List UInt8) : List Value := l.map fun b => Value.int .u8 b.toNat
theorem cells_append (l r : List UInt8) : cells (l ++ r) = cells l ++ cells r := List.map_append ..
theorem cells_one (l : List UInt8) : ∀ u ∈ cells l, u.oneCell' = true := by
  intro u hu
  simp only [cells, List.mem_map] at hu
  obtain ⟨b, _, rfl⟩ := hu
  rfl

/-- A row of bytes of the call's own, from block B on. -/
def Own (w : World) (B : Nat) (a : Option Addr) (n cap : Nat) (l : List UInt8) : Prop := w.ownsRow B 5 1 (.slice a n cap) n (cells l)
theorem Own.len {w : World} {B : Nat} {a : Option Addr} {n cap : Nat} {l : List UInt8} (h : Own w B a n cap l) : l.length = n := by
  have := h.1; simpa [cells] using this
theorem Own.low {w : World} {B C : Nat} {a : Option Addr} {n cap : Nat} {l : List UInt8} (h : Own w B a n cap l) (hC : C ≤ B) : Own w C a n cap l := by
  refine ⟨h.1, ?_⟩
  rcases h.2 with h2 | ⟨g, c, cur, h1, h3, h4⟩
  · exact .inl h2
  · exact .inr ⟨g, c, cur, h1, Nat.le_trans hC h3, h4⟩
theorem Own.keep {w wn : World} {B : Nat} {a : Option Addr} {n cap : Nat} {l : List UInt8} (h : Own w B a n cap l) (hb : Below w.heap.size w wn) : Own wn B a n cap l := by
  refine ⟨h.1, ?_⟩
  rcases h.2 with h2 | ⟨g, c, cur, h1, h3, h4, h5⟩
  · exact .inl h2
  · refine .inr ⟨g, c, cur, h1, h3, ?_, h5⟩
    rw [hb.block g (Array.getElem?_eq_some_iff.1 h4).1]; exact h4
theorem Own.nil (w : World) (B : Nat) : Own w B none 0 0 [] := World.ownsRow_nil w B 5 1
theorem Own.rd {w : World} {B : Nat} {a : Option Addr} {n cap : Nat} {l : List UInt8} (h : Own w B a n cap l) : Rd w a n cap l := by
  have hl := h.len
  rcases h.2 with ⟨h2, h3⟩ | ⟨g, c, cur, h1, h3, h4, h5, h6, h7, h8⟩
  · cases h2
    have : l = [] := List.length_eq_zero_iff.1 (by omega)
    subst this
    exact Rd.nil w
  · cases h1
    refine Rd.mk hl h5 h6 (fun e => (by cases e)) (fun j hj => ⟨g, 0, rfl, ?_⟩)
    have := h.cells (g := g) rfl j (.int .u8 ((l.getD j 0).toNat : Nat)) (by
      simp only [cells, List.getElem?_map, List.getD_eq_getElem?_getD]
      rw [List.getElem?_eq_getElem (by omega)]; rfl)
    rw [add_flat] at this
    rw [Nat.zero_add] at this ⊢
    exact this
theorem Own.block {w : World} {B : Nat} {a : Option Addr} {n cap : Nat} {l : List UInt8} (h : Own w B a n cap l) : ∀ k, (Value.slice a n cap).ownBlock = some k → B ≤ k := fun k hk => (h.lt k hk).1

/-- A row that was made in its place. -/
theorem Own.made (w : World) (l : List UInt8) (B n : Nat) (hn : l.length = n) (hB : B ≤ w.heap.size) (hm : n ≤ maxLen) : Own (w.alloc (.cells (cells l).toArray 5)) B (some ⟨w.heap.size, 0, none⟩) n n l := by
  refine ⟨by simp [cells, hn], .inr ⟨w.heap.size, n, (cells l).toArray, rfl, hB, heap_alloc_new w _, Nat.le_refl _, hm, by simp [cells, hn], ?_⟩⟩
  rw [List.take_of_length_le (by simp [cells, hn])]

theorem Tryd.info5 : (Tryd.prog.info? 5).map (fun i => (i.zero, i.size, i.bytes)) = some (some (.int .u8 0), 1, 1) := by kernel_rfl


/-- b = append(b, x...). -/
theorem append_row {w : World} {ops : Array Oper} {rest : List Oper} {o : Oper} {ac : Act} {Q : Exit → Act → World → Prop} (hgd : o.guard = none) (s x : Operand) (ho : o.op = .call { callee := .builtin .append, args := #[s, x], argTypes := #[33, 33] })
    (B : Nat) {a : Option Addr} {n cap : Nat} {l : List UInt8} (hs : ac.eval s = .slice a n cap) (hown : Own w B a n cap l)
    {a' : Option Addr} {n' cap' : Nat} {r : List UInt8} (hx : ac.eval x = .slice a' n' cap') (hr : Rd w a' n' cap' r) (hb : n + n' ≤ 140737488355328) (hB : B ≤ w.heap.size)
    (h : ∀ a2 n2 c2 w2, n2 = n + n' → Own w2 B a2 n2 c2 (l ++ r) → Below B w w2 → wpList Tryd.prog ops Q rest (ac.put o.dst (.slice a2 n2 c2)) w2) : wpList Tryd.prog ops Q (o :: rest) ac w := by
  obtain ⟨i0, hi, hz0, hz1, hz2⟩ := info_parts Tryd.info5
  have hend : ∀ v' w', w'.ownsRow B 5 1 v' (n + n') (cells l ++ cells r) → w.grownBy w' (Value.slice a n cap).ownBlock → wpList Tryd.prog ops Q rest (ac.put o.dst v') w' := by
    intro v' w' h1 h2
    have hbel : Below B w w' := (Below.refl B w).grown h2 hB hown.block
    rw [← cells_append] at h1
    rcases h1.2 with ⟨rfl, h3⟩ | ⟨g, c, cur, rfl, h3⟩
    · refine h none 0 0 w' h3.symm ?_ hbel
      unfold Own; rw [h3] at h1; exact h1
    · exact h _ _ _ w' rfl h1 hbel
  cases a' with
  | none =>
    have hr0 : r = [] := by
      cases r with
      | nil => rfl
      | cons y ys =>
        obtain ⟨b, off, e, -⟩ := hr.cell 0 (by rw [← hr.len]; simp)
        cases e
    subst hr0
    have hn0 : n' = 0 := by rw [← hr.len]; rfl
    subst hn0
    have hc0 := hr.nul rfl
    subst hc0
    refine wpList_append_own_none hgd s x 33 ho B 5 i0 1 Tryd.underlying33 hi (.slice a n cap) n (cells l) hs hown hx ?_
    exact hend _ w (by rw [show cells [] = [] from rfl, List.append_nil]; exact hown) ⟨rfl, rfl, rfl, Nat.le_refl _, fun _ _ _ => rfl⟩
  | some ad =>
    refine wpList_append_own w hgd s x 33 ho B 5 i0 (.int .u8 0) 1 1 Tryd.underlying33 hi hz0 hz1 hz2 rfl (by decide) (.slice a n cap) n (cells l) hs hown ad n' cap' (cells r) hx ?_ ?_ (cells_one r) ?_ ?_ hB (fun v' w' h1 h2 _ => hend v' w' h1 h2)
    · simp [cells, hr.len]
    · intro j u hu
      simp only [cells, List.getElem?_map] at hu
      have hj : j < r.length := by
        rcases Nat.lt_or_ge j r.length with h | h
        · exact h
        · rw [List.getElem?_eq_none h] at hu; cases hu
      obtain ⟨b, off, e, hc⟩ := hr.cell j (by rw [← hr.len]; exact hj)
      cases e
      rw [add_flat, hc, List.getD_eq_getElem?_getD]
      rw [List.getElem?_eq_getElem hj] at hu ⊢
      exact hu
    · unfold maxLen; omega
    · omega

/-- b = append(b, s...). -/
theorem append_text {w : World} {ops : Array Oper} {rest : List Oper} {o : Oper} {ac : Act} {Q : Exit → Act → World → Prop} (hgd : o.guard = none) (s x : Operand) (ho : o.op = .call { callee := .builtin .append, args := #[s, x], argTypes := #[33, 9] })
    (B : Nat) {a : Option Addr} {n cap : Nat} {l : List UInt8} (hs : ac.eval s = .slice a n cap) (hown : Own w B a n cap l)
    {t : ByteArray} (hx : ac.eval x = .string t) (hb : n + t.size ≤ 140737488355328) (hB : B ≤ w.heap.size)
    (h : ∀ a2 n2 c2 w2, n2 = n + t.size → Own w2 B a2 n2 c2 (l ++ lst t) → Below B w w2 → wpList Tryd.prog ops Q rest (ac.put o.dst (.slice a2 n2 c2)) w2) : wpList Tryd.prog ops Q (o :: rest) ac w := by
  obtain ⟨i0, hi, hz0, hz1, hz2⟩ := info_parts Tryd.info5
  refine Lib.wpList_append_own_string w hgd s x 33 9 ho B 5 i0 Tryd.underlying33 Tryd.underlying9 hi hz0 hz1 hz2 (.slice a n cap) n (cells l) hs hown t hx (by unfold maxLen; omega) hb hB ?_
  intro v' w' h1 h2 _
  have hbel : Below B w w' := (Below.refl B w).grown h2 hB hown.block
  have e1 : cells l ++ Lib.strCells t = cells (l ++ lst t) := by rw [cells_append]; rfl
  rw [e1] at h1
  rcases h1.2 with ⟨rfl, h3⟩ | ⟨g, c, cur, rfl, h3⟩
  · refine h none 0 0 w' h3.symm ?_ hbel
    unfold Own; rw [h3] at h1; exact h1
  · exact h _ _ _ w' rfl h1 hbel

end Go.Proofs.YtlapiaoopmhogaaDoor
