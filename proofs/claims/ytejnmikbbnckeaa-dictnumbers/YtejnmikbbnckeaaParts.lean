/-
  Parts of rows, and what append makes of a row and a part; a number set in its place. For the law's play.
-/
import Derived.Test.YtejnmikbbnckeaaAbs
import Derived.Deep.RegionLaw
namespace Go.Proofs.Ytejnmikbbnckeaa
open Go.RowKit Go.PlainAid

/-- A slice of elements of one cell that reads cs, with its room. -/
structure RdR (w : World) (a : Option Addr) (n cap : Nat) (cs : List Value) : Prop where
  len : cs.length = n
  fit : n ≤ cap
  max : cap ≤ maxLen
  nul : a = none → cap = 0
  cell : ∀ j u, cs[j]? = some u → ∃ b off, a = some ⟨b, off, none⟩ ∧ w.cell? ⟨b, off + j, none⟩ = some u
theorem RdR.keep {w wn : World} {a : Option Addr} {n cap : Nat} {cs : List Value} (h : RdR w a n cap cs) (hb : Below w.heap.size w wn) : RdR wn a n cap cs :=
  ⟨h.len, h.fit, h.max, h.nul, fun j u hu => by
    obtain ⟨b, off, e, hc⟩ := h.cell j u hu
    exact ⟨b, off, e, by rw [hb.cell (p := ⟨b, off + j, none⟩) (World.block_lt_of_cell? _ _ hc)]; exact hc⟩⟩
theorem OwnR.rd {w : World} {B : Nat} {e : TypeId} {a : Option Addr} {n cap : Nat} {cs : List Value} (h : OwnR w B e 1 a n cap cs) : RdR w a n cap cs := by
  have hl := h.len
  rw [Nat.mul_one] at hl
  refine ⟨hl, h.cap.1, h.cap.2, ?_, ?_⟩
  · intro ha
    rcases h.2 with ⟨h2, h3⟩ | ⟨g, c, cur, h1, h3⟩
    · cases h2; rfl
    · cases h1; cases ha
  · intro j u hu
    have hj : j < cs.length := by
      rcases Nat.lt_or_ge j cs.length with h | h
      · exact h
      · rw [List.getElem?_eq_none h] at hu; cases hu
    obtain ⟨g, ha, hc⟩ := h.at (by omega)
    exact ⟨g, 0, ha, by rw [Nat.zero_add]; exact hc j u hu⟩
theorem RdR.sub {w : World} {a : Option Addr} {n cap : Nat} {l : List Value} (h : RdR w a n cap l) (lo hi : Nat) (h1 : lo ≤ hi) (h2 : hi ≤ n) :
    RdR w (if cap = lo then a else a.map (·.add (lo * 1))) (hi - lo) (cap - lo) ((l.drop lo).take (hi - lo)) := by
  have hl := h.len
  have hf := h.fit
  have hx := h.max
  refine ⟨?_, by omega, by omega, fun hn => ?_, fun j u hu => ?_⟩
  · rw [List.length_take, List.length_drop, hl]; omega
  · cases a with
    | none => have := h.nul rfl; omega
    | some x => split at hn <;> simp at hn
  · rw [List.getElem?_take] at hu
    split at hu
    · rename_i hj
      rw [List.getElem?_drop] at hu
      obtain ⟨b, off, e, hc⟩ := h.cell (lo + j) u hu
      subst e
      have hne : ¬ cap = lo := by omega
      refine ⟨b, off + lo, ?_, ?_⟩
      · rw [if_neg hne, Option.map_some, Nat.mul_one, add_flat]
      · rw [Nat.add_assoc]; exact hc
    · cases hu

theorem Try.size9 (w : World) : (sizeOf 9).run Try.prog w = .ok 1 w := by go_simp
theorem Try.size3 (w : World) : (sizeOf 3).run Try.prog w = .ok 1 w := by go_simp
theorem Try.elem39 : Try.prog.elem 39 = 9 := by simp [Program.elem, Try.underlying39]
theorem Try.elem105 : Try.prog.elem 105 = 3 := by simp [Program.elem, Try.underlying105]
/-- What must be known of a row's type for its parts. -/
structure One (t e : TypeId) : Prop where
  und : Try.prog.underlying t = some (.slice (Try.prog.elem t))
  elm : Try.prog.elem t = e
  siz : ∀ w, (sizeOf e).run Try.prog w = .ok 1 w
theorem oneS : One 39 9 := ⟨by rw [Try.elem39]; exact Try.underlying39, Try.elem39, Try.size9⟩
theorem oneJ : One 105 3 := ⟨by rw [Try.elem105]; exact Try.underlying105, Try.elem105, Try.size3⟩
theorem RdR.slice_l {w : World} {t e : TypeId} (F : One t e) {a : Option Addr} {n cap : Nat} {l : List Value} (h : RdR w a n cap l) (lo : Nat) (h1 : lo ≤ n) :
    ∃ a' cap', (∀ wx, (Instr.sliceAt t (.slice a n cap) (some (.int .i64 lo)) none none).run Try.prog wx = .ok (.slice a' (n - lo) cap') wx) ∧ RdR w a' (n - lo) cap' (l.drop lo) := by
  have hs := h.sub lo n h1 (Nat.le_refl _)
  rw [List.take_of_length_le (by rw [List.length_drop, h.len]; omega)] at hs
  refine ⟨_, _, fun wx => ?_, hs⟩
  rw [run_sliceAt_slice _ _ _ _ _ _ F.und, run_slice_l (P := Try.prog) wx t a n cap F.und .i64 lo (by omega) (by omega), F.elm, F.siz]
  simp [Result.andThen, sliced]
theorem RdR.slice_h {w : World} {t e : TypeId} (F : One t e) {a : Option Addr} {n cap : Nat} {l : List Value} (h : RdR w a n cap l) (hi : Nat) (h1 : hi ≤ n) :
    ∃ a' cap', (∀ wx, (Instr.sliceAt t (.slice a n cap) none (some (.int .i64 hi)) none).run Try.prog wx = .ok (.slice a' hi cap') wx) ∧ RdR w a' hi cap' (l.take hi) := by
  have hs := h.sub 0 hi (Nat.zero_le _) h1
  rw [List.drop_zero, Nat.sub_zero, Nat.sub_zero] at hs
  refine ⟨_, _, fun wx => ?_, hs⟩
  rw [run_sliceAt_slice _ _ _ _ _ _ F.und, run_slice_h (P := Try.prog) wx t a n cap F.und .i64 hi (by omega) (by have := h.fit; omega), F.elm, F.siz]
  simp [Result.andThen, sliced]

/-- append(l, x...). -/
theorem run_append_p (w : World) (B : Nat) {t e : TypeId} {by8 : Nat} (F : Elt t e 1 by8) {a : Option Addr} {n cap : Nat} {cs : List Value} (hown : OwnR w B e 1 a n cap cs) {a' : Option Addr} {n' cap' : Nat} {rs : List Value} (hr : RdR w a' n' cap' rs)
    (h1 : ∀ u ∈ rs, u.oneCell' = true) (hb : (n + n') * by8 ≤ 140737488355328) (h63 : n + n' ≤ maxLen) (hB : B ≤ w.heap.size) (ty : TypeId) :
    ∃ a2 c2 w2, (Builtin.append_ #[t, t] ty #[.slice a n cap, .slice a' n' cap']).run Try.prog w = .ok (.slice a2 (n + n') c2) w2 ∧ OwnR w2 B e 1 a2 (n + n') c2 (cs ++ rs) ∧ w.grownBy w2 (a.map (·.block)) := by
  obtain ⟨i, z, hi, hz0, hz1, hz2, hz3⟩ := F.inf
  have hblk : (Value.slice a n cap).ownBlock = a.map (·.block) := by cases a <;> rfl
  cases a' with
  | none =>
    have hc0 := hr.nul rfl
    have hf := hr.fit
    have hn0 : n' = 0 := by omega
    subst hn0
    subst hc0
    have hr0 : rs = [] := List.length_eq_zero_iff.1 hr.len
    subst hr0
    refine ⟨a, cap, w, ?_, by rw [List.append_nil]; exact hown, ⟨rfl, rfl, rfl, Nat.le_refl _, fun _ _ _ => rfl⟩⟩
    exact run_append_owned_none (P := Try.prog) w B t ty e i 1 F.und hi (.slice a n cap) n cs hown
  | some ad =>
    have hnews : ∀ j u, rs[j]? = some u → w.cell? (ad.add j) = some u := fun j u hu => by
      obtain ⟨b, off, ea, hc⟩ := hr.cell j u hu
      cases ea
      rw [add_flat]; exact hc
    obtain ⟨v', w', k1, k2, k3, -⟩ := run_append_own_at (P := Try.prog) w B t ty e i z 1 by8 F.und hi hz0 hz1 hz2 hz3 F.pos (.slice a n cap) n cs hown ad n' cap' rs (by rw [hr.len]; omega) hnews h1 h63 hb hB
    rw [hblk] at k3
    rcases k2.2 with ⟨rfl, h4⟩ | ⟨g2, c2, cur, rfl, h4⟩
    · refine ⟨none, 0, w', by rw [k1, h4], ?_, k3⟩
      rw [h4] at k2 ⊢
      exact k2
    · exact ⟨_, _, w', k1, k2, k3⟩
theorem step_append_p {w : World} {ops : Array Oper} {o : Oper} {ac : Act} {K : Act → World → Prop} {Q : Exit → Act → World → Prop} {E : Prop} (hgd : o.guard = none) (s x : Operand) {t e : TypeId} {by8 : Nat} (ho : o.op = .call { callee := .builtin .append, args := #[s, x], argTypes := #[t, t] })
    (F : Elt t e 1 by8) (B : Nat) {a : Option Addr} {n cap : Nat} {cs : List Value} (hs : ac.eval s = .slice a n cap) (hown : OwnR w B e 1 a n cap cs) {a' : Option Addr} {n' cap' : Nat} {rs : List Value} (hx : ac.eval x = .slice a' n' cap') (hr : RdR w a' n' cap' rs)
    (h1 : ∀ u ∈ rs, u.oneCell' = true) (hb : (n + n') * by8 ≤ 140737488355328) (h63 : n + n' ≤ maxLen) (hB : B ≤ w.heap.size)
    (h : ∀ a2 n2 c2 w2, n2 = n + n' → Hid (OwnR w2 B e 1 a2 n2 c2 (cs ++ rs)) → Hid (w.grownBy w2 (a.map (·.block))) → K (ac.put o.dst (.slice a2 n2 c2)) w2) : if Region.wanted o (yielded ops ac.tmps) = true then Oper.wp Try.prog o ac w K Q else E := by
  have hw : Region.wanted o (yielded ops ac.tmps) = true := by simp [Region.wanted, hgd]
  rw [if_pos hw]
  obtain ⟨a2, c2, w2, k1, k2, k3⟩ := run_append_p w B F hown hr h1 hb h63 hB o.type
  unfold Oper.wp
  simp [execOp, ho, resolve, invoke, builtin, hs, hx, k1, Result.andThen]
  exact h a2 _ c2 w2 rfl k2 k3
/-- A row without elements that was made in its place. -/
theorem OwnR.made0 (w : World) (e : TypeId) (B : Nat) (hB : B ≤ w.heap.size) : OwnR (w.alloc (.cells #[] e)) B e 1 (some ⟨w.heap.size, 0, none⟩) 0 0 [] :=
  ⟨rfl, .inr ⟨w.heap.size, 0, #[], rfl, hB, heap_alloc_new w _, Nat.le_refl _, by decide, rfl, rfl⟩⟩
/-- A row of one element that was made in its place. -/
theorem RdR.made1 (w : World) (e : TypeId) (u : Value) : RdR (w.alloc (.cells #[u] e)) (some ⟨w.heap.size, 0, none⟩) 1 1 [u] := by
  refine ⟨rfl, Nat.le_refl _, by decide, (fun h => by cases h), fun j v hv => ⟨w.heap.size, 0, rfl, ?_⟩⟩
  cases j with
  | zero => rw [← hv]; simp only [World.cell?, heap_alloc_new]; rfl
  | succ j => simp at hv

theorem RdR.grown {w w2 : World} {g n cap : Nat} {cs : List Value} {row : Option Nat} (h : RdR w (some ⟨g, 0, none⟩) n cap cs) (hg : w.grownBy w2 row) (hne : row ≠ some g) : RdR w2 (some ⟨g, 0, none⟩) n cap cs :=
  ⟨h.len, h.fit, h.max, h.nul, fun j u hu => by
    obtain ⟨b, off, e, hc⟩ := h.cell j u hu
    cases e
    refine ⟨g, 0, rfl, ?_⟩
    rw [World.cell?_of_block (w := w) (a := ⟨g, 0 + j, none⟩) (hg.block g (World.block_lt_of_cell? _ _ hc) (fun e => hne e.symm))]
    exact hc⟩
/-- vals[i] = v. -/
theorem OwnJ.set {w : World} {B : Nat} {a : Option Addr} {n c : Nat} {ls : List Int} (h : OwnJ w B a n c ls) {i : Nat} (hi : i < n) (v : Int) :
    ∃ g, a = some ⟨g, 0, none⟩ ∧ B ≤ g ∧ (∃ u, w.cell? ⟨g, i, none⟩ = some u) ∧ w.frozen? ⟨g, i, none⟩ = false ∧ (∃ cur, w.heap[g]? = some (.cells cur 3 (0, 0))) ∧ OwnJ (w.setCell ⟨g, i, none⟩ (.int .i64 v)) B a n c (ls.set i v) := by
  have hlen := OwnJ.len h
  obtain ⟨g0, ha0, hc0⟩ := OwnJ.cell h hi
  rcases h.2 with ⟨h2, h3⟩ | ⟨g, c', cur, h1, h3, h4, h5, h6, h7, h8⟩
  · omega
  · cases h1
    cases ha0
    refine ⟨g0, rfl, h3, ⟨_, hc0⟩, by simp [World.frozen?, h4], ⟨cur, h4⟩, by simp [jcells, hlen], .inr ⟨g0, c, cur.setIfInBounds i (.int .i64 v), rfl, h3, heap_set h4 _, h5, h6, by simpa using h7, ?_⟩⟩
    rw [Array.toList_setIfInBounds, Nat.mul_one, List.take_set]
    rw [Nat.mul_one] at h8
    rw [h8, jcells, jcells, List.map_set]
end Go.Proofs.Ytejnmikbbnckeaa
