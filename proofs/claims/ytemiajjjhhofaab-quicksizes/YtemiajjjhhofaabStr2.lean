/-
  Rows of texts: parts of them, what append makes of two, a text set in its place.
-/
import Derived.Test.YtemiajjjhhofaabPkW
namespace Go.Proofs.Ytemiajjjhhofaab
open Go.RowKit Go.PlainAid

/-- A slice that reads the texts ls, with its room. -/
structure RdL (w : World) (a : Option Addr) (n cap : Nat) (ls : List ByteArray) : Prop where
  rd : RdS w a n ls
  fit : n ≤ cap
  max : cap ≤ maxLen
  nul : a = none → cap = 0
theorem RdL.keep {w wn : World} {a : Option Addr} {n cap : Nat} {ls : List ByteArray} (h : RdL w a n cap ls) (hb : Below w.heap.size w wn) : RdL wn a n cap ls := ⟨h.rd.keep hb, h.fit, h.max, h.nul⟩
theorem OwnS.rl {w : World} {B : Nat} {a : Option Addr} {n cap : Nat} {ls : List ByteArray} (h : OwnS w B a n cap ls) : RdL w a n cap ls := by
  refine ⟨h.rd, ?_, ?_, ?_⟩
  all_goals
    rcases h.2 with ⟨h2, h3⟩ | ⟨g, c, cur, h1, h3, h4, h5, h6, h7⟩
  · cases h2; omega
  · cases h1; exact h5
  · cases h2; decide
  · cases h1; exact h6
  · cases h2; intro; rfl
  · cases h1; intro e; cases e

theorem RdL.sub {w : World} {a : Option Addr} {n cap : Nat} {l : List ByteArray} (h : RdL w a n cap l) (lo hi : Nat) (h1 : lo ≤ hi) (h2 : hi ≤ n) :
    RdL w (if cap = lo then a else a.map (·.add (lo * 1))) (hi - lo) (cap - lo) ((l.drop lo).take (hi - lo)) := by
  have hl := h.rd.len
  have hf := h.fit
  have hx := h.max
  refine ⟨⟨?_, ?_, fun j hj => ?_⟩, by omega, by omega, fun hn => ?_⟩
  · rw [List.length_take, List.length_drop, hl]; omega
  · omega
  · obtain ⟨b, off, e, hc⟩ := h.rd.cell (lo + j) (by omega)
    subst e
    have hne : ¬ cap = lo := by omega
    refine ⟨b, off + lo, ?_, ?_⟩
    · rw [if_neg hne, Option.map_some, Nat.mul_one, add_flat]
    · rw [Nat.add_assoc, hc, List.getD_eq_getElem?_getD, List.getD_eq_getElem?_getD, List.getElem?_take, if_pos hj, List.getElem?_drop]
  · cases a with
    | none => have := h.nul rfl; omega
    | some x => split at hn <;> simp at hn

theorem Try.size9 (w : World) : (sizeOf 9).run Try.prog w = .ok 1 w := by go_simp
theorem Try.elem22 : Try.prog.elem 22 = 9 := by simp [Program.elem, Try.underlying22]
theorem RdL.slice_l {w : World} {a : Option Addr} {n cap : Nat} {l : List ByteArray} (h : RdL w a n cap l) (lo : Nat) (h1 : lo ≤ n) :
    ∃ a' cap', (∀ wx, (Instr.sliceAt 22 (.slice a n cap) (some (.int .i64 lo)) none none).run Try.prog wx = .ok (.slice a' (n - lo) cap') wx) ∧ RdL w a' (n - lo) cap' (l.drop lo) := by
  have hs := h.sub lo n h1 (Nat.le_refl _)
  rw [List.take_of_length_le (by rw [List.length_drop, h.rd.len]; omega)] at hs
  refine ⟨_, _, fun wx => ?_, hs⟩
  have ht : Try.prog.underlying 22 = some (.slice (Try.prog.elem 22)) := by rw [Try.elem22]; exact Try.underlying22
  rw [run_sliceAt_slice _ _ _ _ _ _ ht, run_slice_l (P := Try.prog) wx 22 a n cap ht .i64 lo (by omega) (by omega), Try.elem22, Try.size9]
  simp [Result.andThen, sliced]
theorem RdL.slice_h {w : World} {a : Option Addr} {n cap : Nat} {l : List ByteArray} (h : RdL w a n cap l) (hi : Nat) (h1 : hi ≤ n) :
    ∃ a' cap', (∀ wx, (Instr.sliceAt 22 (.slice a n cap) none (some (.int .i64 hi)) none).run Try.prog wx = .ok (.slice a' hi cap') wx) ∧ RdL w a' hi cap' (l.take hi) := by
  have hs := h.sub 0 hi (Nat.zero_le _) h1
  rw [List.drop_zero, Nat.sub_zero, Nat.sub_zero] at hs
  refine ⟨_, _, fun wx => ?_, hs⟩
  have ht : Try.prog.underlying 22 = some (.slice (Try.prog.elem 22)) := by rw [Try.elem22]; exact Try.underlying22
  rw [run_sliceAt_slice _ _ _ _ _ _ ht, run_slice_h (P := Try.prog) wx 22 a n cap ht .i64 hi (by omega) (by have := h.fit; omega), Try.elem22, Try.size9]
  simp [Result.andThen, sliced]

/-- append(l, x...) at rows of texts. -/
theorem run_append_strs (w : World) (B : Nat) (a : Option Addr) (n cap : Nat) (ls : List ByteArray) (hown : OwnS w B a n cap ls) (a' : Option Addr) (n' cap' : Nat) (rs : List ByteArray) (hr : RdL w a' n' cap' rs) (hb : n + n' ≤ 1000000) (hB : B ≤ w.heap.size) (ty : TypeId) :
    ∃ a2 c2 w2, (Builtin.append_ #[22, 22] ty #[.slice a n cap, .slice a' n' cap']).run Try.prog w = .ok (.slice a2 (n + n') c2) w2 ∧ OwnS w2 B a2 (n + n') c2 (ls ++ rs) ∧ Below B w w2 := by
  obtain ⟨i0, hi, hz0, hz1, hz2⟩ := info_parts Try.info9
  have hblk : ∀ k, (Value.slice a n cap).ownBlock = some k → B ≤ k := fun k hk => (hown.lt k hk).1
  cases a' with
  | none =>
    have hrl := hr.rd.len
    have hc0 := hr.nul rfl
    have hf := hr.fit
    have hn0 : n' = 0 := by omega
    subst hn0
    subst hc0
    have hr0 : rs = [] := List.length_eq_zero_iff.1 hrl
    subst hr0
    refine ⟨a, cap, w, ?_, by rw [List.append_nil]; exact hown, Below.refl _ _⟩
    have := run_append_owned_none (P := Try.prog) w B 22 ty 9 i0 1 Try.underlying22 hi (.slice a n cap) n (ls.map Value.string) hown
    exact this
  | some ad =>
    have hrun := run_append_own (P := Try.prog) w B 22 ty 9 i0 (.string ⟨#[]⟩) 1 16 Try.underlying22 hi hz0 hz1 hz2 rfl (by decide) (.slice a n cap) n (ls.map Value.string) hown ad n' cap' (rs.map Value.string) (by rw [List.length_map, hr.rd.len]; omega) (fun j u hu => by
      rw [List.getElem?_map] at hu
      have hj : j < rs.length := by
        rcases Nat.lt_or_ge j rs.length with h | h
        · exact h
        · rw [List.getElem?_eq_none h] at hu; cases hu
      obtain ⟨b, off, e, hc⟩ := hr.rd.cell j (by rw [← hr.rd.len]; exact hj)
      cases e
      rw [add_flat, hc, List.getD_eq_getElem?_getD]
      rw [List.getElem?_eq_getElem hj] at hu ⊢
      exact hu) (by simp [Value.oneCell']) (by unfold maxLen; omega) (by omega) hB
    obtain ⟨v', w', h1, h2, h3, -⟩ := hrun
    rw [← List.map_append] at h2
    have hbel : Below B w w' := (Below.refl B w).grown h3 hB hblk
    rcases h2.2 with ⟨rfl, h4⟩ | ⟨g, c, cur, rfl, h4⟩
    · refine ⟨none, 0, w', by rw [h1, h4], ?_, hbel⟩
      rw [h4] at h2 ⊢
      exact h2
    · exact ⟨_, _, w', h1, h2, hbel⟩

theorem append_strs {w : World} {ops : Array Oper} {rest : List Oper} {o : Oper} {ac : Act} {Q : Exit → Act → World → Prop} (hgd : o.guard = none) (s x : Operand) (ho : o.op = .call { callee := .builtin .append, args := #[s, x], argTypes := #[22, 22] })
    (B : Nat) {a : Option Addr} {n cap : Nat} {ls : List ByteArray} (hs : ac.eval s = .slice a n cap) (hown : OwnS w B a n cap ls)
    {a' : Option Addr} {n' cap' : Nat} {rs : List ByteArray} (hx : ac.eval x = .slice a' n' cap') (hr : RdL w a' n' cap' rs) (hb : n + n' ≤ 1000000) (hB : B ≤ w.heap.size)
    (h : ∀ a2 n2 c2 w2, n2 = n + n' → Hid (OwnS w2 B a2 n2 c2 (ls ++ rs)) → Hid (Below B w w2) → wpList Try.prog ops Q rest (ac.put o.dst (.slice a2 n2 c2)) w2) : wpList Try.prog ops Q (o :: rest) ac w := by
  obtain ⟨a2, c2, w2, h1, h2, h3⟩ := run_append_strs w B a n cap ls hown a' n' cap' rs hr hb hB o.type
  refine wpList_plain hgd fun K hK => ?_
  unfold Oper.wp
  simp [execOp, ho, resolve, invoke, builtin, hs, hx, h1, Result.andThen]
  exact hK _ _ (h a2 _ c2 w2 rfl h2 h3)
theorem append_strs_w {w : World} {ops : Array Oper} {rest : List Oper} {o : Oper} {ac : Act} {Q : Exit → Act → World → Prop} (hgd : Region.wanted o (yielded ops ac.tmps) = true) (s x : Operand) (ho : o.op = .call { callee := .builtin .append, args := #[s, x], argTypes := #[22, 22] })
    (B : Nat) {a : Option Addr} {n cap : Nat} {ls : List ByteArray} (hs : ac.eval s = .slice a n cap) (hown : OwnS w B a n cap ls)
    {a' : Option Addr} {n' cap' : Nat} {rs : List ByteArray} (hx : ac.eval x = .slice a' n' cap') (hr : RdL w a' n' cap' rs) (hb : n + n' ≤ 1000000) (hB : B ≤ w.heap.size)
    (h : ∀ a2 n2 c2 w2, n2 = n + n' → Hid (OwnS w2 B a2 n2 c2 (ls ++ rs)) → Hid (Below B w w2) → wpList Try.prog ops Q rest (ac.put o.dst (.slice a2 n2 c2)) w2) : wpList Try.prog ops Q (o :: rest) ac w := by
  obtain ⟨a2, c2, w2, h1, h2, h3⟩ := run_append_strs w B a n cap ls hown a' n' cap' rs hr hb hB o.type
  refine BigFrame.wpList_want hgd fun K hK => ?_
  unfold Oper.wp
  simp [execOp, ho, resolve, invoke, builtin, hs, hx, h1, Result.andThen]
  exact hK _ _ (h a2 _ c2 w2 rfl h2 h3)
theorem step_append_strs {w : World} {ops : Array Oper} {o : Oper} {ac : Act} {K : Act → World → Prop} {Q : Exit → Act → World → Prop} {E : Prop} (hgd : o.guard = none) (s x : Operand) (ho : o.op = .call { callee := .builtin .append, args := #[s, x], argTypes := #[22, 22] })
    (B : Nat) {a : Option Addr} {n cap : Nat} {ls : List ByteArray} (hs : ac.eval s = .slice a n cap) (hown : OwnS w B a n cap ls)
    {a' : Option Addr} {n' cap' : Nat} {rs : List ByteArray} (hx : ac.eval x = .slice a' n' cap') (hr : RdL w a' n' cap' rs) (hb : n + n' ≤ 1000000) (hB : B ≤ w.heap.size)
    (h : ∀ a2 n2 c2 w2, n2 = n + n' → Hid (OwnS w2 B a2 n2 c2 (ls ++ rs)) → Hid (Below B w w2) → K (ac.put o.dst (.slice a2 n2 c2)) w2) : if Region.wanted o (yielded ops ac.tmps) = true then Oper.wp Try.prog o ac w K Q else E := by
  have hw : Region.wanted o (yielded ops ac.tmps) = true := by simp [Region.wanted, hgd]
  rw [if_pos hw]
  obtain ⟨a2, c2, w2, h1, h2, h3⟩ := run_append_strs w B a n cap ls hown a' n' cap' rs hr hb hB o.type
  unfold Oper.wp
  simp [execOp, ho, resolve, invoke, builtin, hs, hx, h1, Result.andThen]
  exact h a2 _ c2 w2 rfl h2 h3

/-- A row of texts that was made in its place. -/
theorem OwnS.made (w : World) (ls : List ByteArray) (B n : Nat) (hn : ls.length = n) (hB : B ≤ w.heap.size) (hm : n ≤ maxLen) (vs : Array Value) (hv : vs = (ls.map Value.string).toArray) : OwnS (w.alloc (.cells vs 9)) B (some ⟨w.heap.size, 0, none⟩) n n ls := by
  subst hv
  refine ⟨by simp [hn], .inr ⟨w.heap.size, n, (ls.map Value.string).toArray, rfl, hB, heap_alloc_new w _, Nat.le_refl _, hm, by simp [hn], ?_⟩⟩
  rw [List.take_of_length_le (by simp [hn])]
/-- l[i] = s. -/
theorem OwnS.set {w : World} {B : Nat} {a : Option Addr} {n c : Nat} {ls : List ByteArray} (h : OwnS w B a n c ls) (i : Nat) (hi : i < n) (s : ByteArray) :
    ∃ g, a = some ⟨g, 0, none⟩ ∧ B ≤ g ∧ (∃ v, w.cell? ⟨g, i, none⟩ = some v) ∧ w.frozen? ⟨g, i, none⟩ = false ∧ OwnS (w.setCell ⟨g, i, none⟩ (.string s)) B a n c (ls.set i s) := by
  rcases h.2 with ⟨h2, h3⟩ | ⟨g, c', cur, h1, h3, h4, h5, h6, h7, h8⟩
  · omega
  · cases h1
    have hlt : g < w.heap.size := (Array.getElem?_eq_some_iff.1 h4).1
    refine ⟨g, rfl, h3, ⟨cur[i]'(by omega), ?_⟩, ?_, ⟨by rw [List.map_set, List.length_set]; exact h.1, .inr ⟨g, _, cur.setIfInBounds i (.string s), rfl, h3, ?_, h5, h6, by simpa using h7, ?_⟩⟩⟩
    · simp [World.cell?, h4]
    · simp [World.frozen?, h4]
    · simp [World.setCell, Array.getElem?_modify, h4]
    · rw [Array.toList_setIfInBounds, List.take_set, h8, List.map_set]
end Go.Proofs.Ytemiajjjhhofaab
