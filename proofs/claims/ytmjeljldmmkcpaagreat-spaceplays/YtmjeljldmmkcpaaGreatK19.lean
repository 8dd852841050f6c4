/- Texts that the others stand on. -/
import Derived.Test.YtmjeljldmmkcpaaGreatK17
import Derived.Laws.CopyOwn
import Derived.Lib.Overlaps
import Derived.Lib.SliceRun
import Derived.Lib.AppendZerosOnto
import Derived.Deep.RegionLaw
namespace Go.Proofs.YtmjeljldmmkcpaaGreat
open Go.RowKit Go.PlainAid
def Bk (w : World) (g : Nat) (cur : List Value) : Prop := w.heap[g]? = some (.cells cur.toArray 5 (0, 0))
theorem Bk.lt {w : World} {g : Nat} {cur : List Value} (h : Bk w g cur) : g < w.heap.size := (Array.getElem?_eq_some_iff.1 h).1
theorem Bk.cell {w : World} {g : Nat} {cur : List Value} (h : Bk w g cur) (j : Nat) : w.cell? ⟨g, j, none⟩ = cur[j]? := by
 have h' : w.heap[g]? = some (.cells cur.toArray 5 (0, 0)) := h
 simp [World.cell?, h']
theorem Bk.frozen {w : World} {g : Nat} {cur : List Value} (h : Bk w g cur) (j : Nat) : w.frozen? ⟨g, j, none⟩ = false := by
 have h' : w.heap[g]? = some (.cells cur.toArray 5 (0, 0)) := h
 simp [World.frozen?, h']
theorem Bk.shape {w : World} {g : Nat} {cur : List Value} (h : Bk w g cur) : w.shape? g = some (5, cur.length) := by
 have h' : w.heap[g]? = some (.cells cur.toArray 5 (0, 0)) := h
 simp [World.shape?, h']
theorem Bk.drew {w : World} {g : Nat} {cur : List Value} (h : Bk w g cur) : Bk w.drew g cur := h
theorem Bk.keep {w w' : World} {g : Nat} {cur : List Value} {row : Option Nat} (h : Bk w g cur) (hg : w.grownBy w' row) (hne : some g ≠ row) : Bk w' g cur := by
 show _ = _
 rw [hg.block g h.lt hne]; exact h
theorem Cr (w : World) (row : Option Nat) : w.grownBy w row := ⟨rfl, rfl, rfl, Nat.le_refl _, fun _ _ _ => rfl⟩
theorem As {w w1 w2 : World} {row : Option Nat} (h1 : w.grownBy w1 row) (h2 : w1.grownBy w2 row) : w.grownBy w2 row :=
 ⟨h2.os.trans h1.os, h2.tape.trans h1.tape, h2.output.trans h1.output, Nat.le_trans h1.size h2.size, fun k hk hr => (h2.block k (Nat.lt_of_lt_of_le hk h1.size) hr).trans (h1.block k hk hr)⟩
theorem grown_new {w w1 w2 : World} {row : Option Nat} {g : Nat} (h1 : w.grownBy w1 row) (hg : w.heap.size ≤ g) (h2 : w1.grownBy w2 (some g)) : w.grownBy w2 row :=
 ⟨h2.os.trans h1.os, h2.tape.trans h1.tape, h2.output.trans h1.output, Nat.le_trans h1.size h2.size, fun k hk hr => (h2.block k (Nat.lt_of_lt_of_le hk h1.size) (by intro e; cases e; omega)).trans (h1.block k hk hr)⟩
theorem Bn {w w1 : World} {row : Option Nat} (h : w.drew.grownBy w1 row) : w.grownBy w1 row := ⟨h.os, h.tape, h.output, h.size, h.block⟩
theorem grown_setRow (w : World) (g : Nat) (cs : Array Value) : w.grownBy (w.setRow g cs) (some g) :=
 ⟨rfl, rfl, rfl, by simp [World.setRow], fun k _ hr => setRow_other w g k cs (fun e => hr (by rw [e]))⟩
theorem Cy (w : World) (g o : Nat) (v : Value) : w.grownBy (w.setCell ⟨g, o, none⟩ v) (some g) :=
 ⟨rfl, rfl, rfl, by simp [World.setCell], fun k _ hr => Deep.blk_setCell_other w _ v k (fun e => hr (by rw [e]))⟩
theorem below_grown {w w' : World} (h : Below w.heap.size w w') (row : Option Nat) : w.grownBy w' row := ⟨h.os, h.tape, h.output, h.size, fun k hk _ => h.block k hk⟩
theorem Own.parts {w : World} {B : Nat} {a : Option Addr} {n c : Nat} {l : List UInt8} (h : Own w B a n c l) (h0 : 0 < n) :
  ∃ g cur, a = some ⟨g, 0, none⟩ ∧ B ≤ g ∧ Bk w g cur ∧ n ≤ c ∧ c ≤ maxLen ∧ cur.length = c ∧ cur.take n = cells l := by
 rcases h.2 with ⟨h2, h3⟩ | ⟨g, c', cur, h1, h3, h4, h5, h6, h7, h8⟩
 ·omega
 ·cases h1
  refine ⟨g, cur.toList, rfl, h3, by show _ = _; simpa using h4, h5, h6, by simpa using h7, ?_⟩
  simpa using h8
theorem Own.of {w : World} {B g n c : Nat} {cur : List Value} {l : List UInt8} (hB : B ≤ g) (hk : Bk w g cur) (hn : n ≤ c) (hc : c ≤ maxLen) (hl : cur.length = c) (ht : cur.take n = cells l) : Own w B (some ⟨g, 0, none⟩) n c l := by
 have hlen : l.length = n := by
  have := congrArg List.length ht
  simp [cells] at this
  omega
 refine ⟨by simp [cells, hlen], .inr ⟨g, c, cur.toArray, rfl, hB, hk, hn, hc, by simp [hl], by simpa using ht⟩⟩
theorem Own.grow {w w' : World} {B : Nat} {a : Option Addr} {n c : Nat} {l : List UInt8} {row : Option Nat} (h : Own w B a n c l) (hg : w.grownBy w' row) (hne : ∀ g, a = some ⟨g, 0, none⟩ → some g ≠ row) : Own w' B a n c l := by
 refine ⟨h.1, ?_⟩
 rcases h.2 with h2 | ⟨g, c', cur, h1, h3, h4, h5⟩
 ·exact .inl h2
 ·cases h1
  refine .inr ⟨g, _, cur, rfl, h3, ?_, h5⟩
  rw [hg.block g (Array.getElem?_eq_some_iff.1 h4).1 (hne g rfl)]; exact h4
theorem slice_at (g n c lo hi : Nat) (h1 : lo ≤ hi) (h2 : hi ≤ c) :
  ∃ o, (lo < c → o = lo) ∧ ∀ wx, (Instr.sliceAt 32 (.slice (some ⟨g, 0, none⟩) n c) (some (.int .i64 lo)) (some (.int .i64 hi)) none).run Tryz.prog wx = .ok (.slice (some ⟨g, o, none⟩) (hi - lo) (c - lo)) wx := by
 have ht : Tryz.prog.underlying 32 = some (.slice (Tryz.prog.elem 32)) := by rw [Tryz.elem32]; exact Tryz.underlying32
 refine ⟨if c = lo then 0 else lo, fun h => by rw [if_neg (by omega)], fun wx => ?_⟩
 rw [run_sliceAt_slice _ _ _ _ _ _ ht, run_slice_lh (P := Tryz.prog) wx 32 _ n c ht .i64 .i64 lo hi (by omega) (by omega) (by omega), Tryz.elem32, Tryz.size5]
 simp only [Result.andThen, sliced, Int.toNat_natCast]
 split <;> simp [*, Af]
theorem Az (g n c lo : Nat) (h1 : lo ≤ n) :
  ∃ o, (lo < c → o = lo) ∧ ∀ wx, (Instr.sliceAt 32 (.slice (some ⟨g, 0, none⟩) n c) (some (.int .i64 lo)) none none).run Tryz.prog wx = .ok (.slice (some ⟨g, o, none⟩) (n - lo) (c - lo)) wx := by
 have ht : Tryz.prog.underlying 32 = some (.slice (Tryz.prog.elem 32)) := by rw [Tryz.elem32]; exact Tryz.underlying32
 refine ⟨if c = lo then 0 else lo, fun h => by rw [if_neg (by omega)], fun wx => ?_⟩
 rw [run_sliceAt_slice _ _ _ _ _ _ ht, run_slice_l (P := Tryz.prog) wx 32 _ n c ht .i64 lo (by omega) (by omega), Tryz.elem32, Tryz.size5]
 simp only [Result.andThen, sliced, Int.toNat_natCast]
 split <;> simp [*, Af]
theorem Bp (g n c hi : Nat) (h1 : hi ≤ c) :
  ∀ wx, (Instr.sliceAt 32 (.slice (some ⟨g, 0, none⟩) n c) none (some (.int .i64 hi)) none).run Tryz.prog wx = .ok (.slice (some ⟨g, 0, none⟩) hi c) wx := by
 have ht : Tryz.prog.underlying 32 = some (.slice (Tryz.prog.elem 32)) := by rw [Tryz.elem32]; exact Tryz.underlying32
 intro wx
 rw [run_sliceAt_slice _ _ _ _ _ _ ht, run_slice_h (P := Tryz.prog) wx 32 _ n c ht .i64 hi (by omega) (by omega), Tryz.elem32, Tryz.size5]
 simp [Result.andThen, sliced, Af]
theorem cur_set {w : World} {g : Nat} {cur : List Value} (h : Bk w g cur) (o : Nat) (v : Value) : Bk (w.setCell ⟨g, o, none⟩ v) g (cur.set o v) := by
 have h' : w.heap[g]? = some (.cells cur.toArray 5 (0, 0)) := h
 have hlt : g < w.heap.size := (Array.getElem?_eq_some_iff.1 h').1
 have hv : w.heap[g] = .cells cur.toArray 5 (0, 0) := (Array.getElem?_eq_some_iff.1 h').2
 show (w.setCell ⟨g, o, none⟩ v).heap[g]? = _
 simp [World.setCell, Array.getElem?_modify, h']
theorem splice_set (cur : List Value) (o : Nat) (v : Value) (vs : List Value) (h : o + (vs.length + 1) ≤ cur.length) : splice (cur.set o v) (o + 1) vs = splice cur o (v :: vs) := by
 unfold splice
 rw [List.length_cons, List.take_set, List.drop_set_of_lt (by omega), show o + 1 + vs.length = o + (vs.length + 1) by omega]
 have : (cur.take (o + 1)).set o v = cur.take o ++ [v] := by
  rw [List.take_add_one, List.getElem?_eq_getElem (by omega), Option.toList_some, List.set_append_right _ _ (by rw [List.length_take]; omega)]
  rw [List.length_take, Nat.min_eq_left (by omega), Nat.sub_self]; rfl
 rw [this, List.append_assoc]; rfl
theorem bk_cells {g : Nat} : ∀ (vs : List Value) (o : Nat) (w : World) (cur : List Value), Bk w g cur → o + vs.length ≤ cur.length → Bk (w.setCells g o vs) g (splice cur o vs) ∧ w.grownBy (w.setCells g o vs) (some g)
 | [], o, w, cur, h, hl => ⟨by simpa [splice, World.setCells] using h, Cr _ _⟩
 | v :: vs, o, w, cur, h, hl => by
  have h1 := bk_cells vs (o + 1) (w.setCell ⟨g, o, none⟩ v) (cur.set o v) (cur_set h o v) (by simp at hl ⊢; omega)
  rw [splice_set cur o v vs (by simpa using hl)] at h1
  exact ⟨h1.1, As (Cy w g o v) h1.2⟩
def CpOk (w : World) (dp sp : Option Addr) (g off : Nat) (cs : List Value) : Prop := 0 < cs.length → dp = some ⟨g, off, none⟩ ∧ ∃ ad, sp = some ad ∧ ∀ j v, cs[j]? = some v → w.cell? (ad.add j) = some v
theorem Cm (w : World) (dp sp : Option Addr) (dLen dCap sLen sCap g off : Nat) (cur : List Value) (hB : Bk w g cur) (cs : List Value) (hn : cs.length = Nat.min sLen dLen)
  (hpos : CpOk w dp sp g off cs) (hfit : off + cs.length ≤ cur.length) (h1 : ∀ v ∈ cs, v.oneCell' = true) :
  ∃ w', (∀ ty, (Builtin.copy_ #[32, 32] ty #[.slice dp dLen dCap, .slice sp sLen sCap]).run Tryz.prog w = .ok (goInt cs.length) w') ∧ Bk w' g (splice cur off cs) ∧ w.grownBy w' (some g) := by
 by_cases h0 : cs.length = 0
 ·obtain rfl : cs = [] := List.eq_nil_of_length_eq_zero h0
  refine ⟨w, fun ty => ?_, by simpa [splice] using hB, Cr _ _⟩
  exact run_copy_none (P := Tryz.prog) w 32 32 ty 5 dp sp dLen dCap sLen sCap Tryz.underlying32 (by kernel_rfl) (by simpa using hn.symm)
 ·obtain ⟨rfl, ad, rfl, hsrc⟩ := hpos (by omega)
  refine ⟨_, fun ty => run_copy_row (P := Tryz.prog) w 32 32 ty 5 g off dLen dCap ad sLen sCap cur.toArray 5 cs Tryz.underlying32 (by kernel_rfl) hB hn hsrc (by simpa using hfit) h1, ?_, grown_setRow _ _ _⟩
  show _ = _
  rw [setRow_heap w g cur.toArray _ 5 (0, 0) hB]
  simp [splice]
theorem copy_in {w : World} {ops : Array Oper} {rest : List Oper} {o : Oper} {ac : Act} {Q : Exit → Act → World → Prop} (hgd : o.guard = none) (d s : Operand) (ho : o.op = .call { callee := .builtin .copy, args := #[d, s], argTypes := #[32, 32] })
  {dp sp : Option Addr} {dLen dCap sLen sCap : Nat} (hd : ac.eval d = .slice dp dLen dCap) (hs : ac.eval s = .slice sp sLen sCap)
  (g off : Nat) (cur : List Value) (hB : Bk w g cur) (cs : List Value) (hn : cs.length = Nat.min sLen dLen)
  (hpos : CpOk w dp sp g off cs) (hfit : off + cs.length ≤ cur.length) (h1 : ∀ v ∈ cs, v.oneCell' = true)
  (h : ∀ w', Hid (Bk w' g (splice cur off cs)) → Hid (w.grownBy w' (some g)) → wpList Tryz.prog ops Q rest (ac.put o.dst (goInt cs.length)) w') : wpList Tryz.prog ops Q (o :: rest) ac w := by
 obtain ⟨w', hr, h2, h3⟩ := Cm w dp sp dLen dCap sLen sCap g off cur hB cs hn hpos hfit h1
 refine wpList_plain hgd fun K hK => ?_
 unfold Oper.wp
 simp [execOp, ho, resolve, invoke, builtin, hd, hs, hr, Result.andThen]
 exact hK _ _ (h w' h2 h3)
theorem Co {w : World} {ops : Array Oper} {o : Oper} {ac : Act} {K : Act → World → Prop} {Q : Exit → Act → World → Prop} {E : Prop} (hgd : o.guard = none) (d s : Operand) (ho : o.op = .call { callee := .builtin .copy, args := #[d, s], argTypes := #[32, 32] })
  {dp sp : Option Addr} {dLen dCap sLen sCap : Nat} (hd : ac.eval d = .slice dp dLen dCap) (hs : ac.eval s = .slice sp sLen sCap)
  (g off : Nat) (cur : List Value) (hB : Bk w g cur) (cs : List Value) (hn : cs.length = Nat.min sLen dLen)
  (hpos : CpOk w dp sp g off cs) (hfit : off + cs.length ≤ cur.length) (h1 : ∀ v ∈ cs, v.oneCell' = true)
  (h : ∀ w', Hid (Bk w' g (splice cur off cs)) → Hid (w.grownBy w' (some g)) → K (ac.put o.dst (goInt cs.length)) w') : if Region.wanted o (yielded ops ac.tmps) = true then Oper.wp Tryz.prog o ac w K Q else E := by
 have hw : Region.wanted o (yielded ops ac.tmps) = true := by simp [Region.wanted, hgd]
 rw [if_pos hw]
 obtain ⟨w', hr, h2, h3⟩ := Cm w dp sp dLen dCap sLen sCap g off cur hB cs hn hpos hfit h1
 unfold Oper.wp
 simp [execOp, ho, resolve, invoke, builtin, hd, hs, hr, Result.andThen]
 exact h w' h2 h3
theorem clear_in {w : World} {ops : Array Oper} {rest : List Oper} {o : Oper} {ac : Act} {Q : Exit → Act → World → Prop} (hgd : o.guard = none) (d : Operand) (ho : o.op = .call { callee := .builtin .clear, args := #[d], argTypes := #[32] })
  {g off dLen dCap : Nat} (hd : ac.eval d = .slice (some ⟨g, off, none⟩) dLen dCap) (cur : List Value) (hB : Bk w g cur) (hfit : off + dLen ≤ cur.length)
  (h : ∀ w', Hid (Bk w' g (splice cur off (List.replicate dLen (.int .u8 0)))) → Hid (w.grownBy w' (some g)) → wpList Tryz.prog ops Q rest (ac.put o.dst (.tuple #[])) w') : wpList Tryz.prog ops Q (o :: rest) ac w := by
 by_cases h0 : dLen = 0
 ·subst h0
  have hr : ∀ ty, (Builtin.clear_ #[32] ty #[.slice (some ⟨g, off, none⟩) 0 dCap]).run Tryz.prog w = .ok (.tuple #[]) w := by
   intro ty
   simp [Builtin.clear_, run_underlying Tryz.underlying32]
  refine wpList_plain hgd fun K hK => ?_
  unfold Oper.wp
  simp [execOp, ho, resolve, invoke, builtin, hd, hr, Result.andThen]
  exact hK _ _ (h w (by show Bk _ _ _; simpa [splice] using hB) (Cr _ _))
 ·have hz : ∀ w, (zeroValue 5).run Tryz.prog w = .ok (.int .u8 0) w := fun w => by go_simp
  have hr := fun ty => Lib.run_clear_slice (P := Tryz.prog) w 32 5 ty (.int .u8 0) Tryz.underlying32 hz rfl rfl g off dLen dCap (by omega)
   (fun j hj => by rw [hB.cell, List.getElem?_eq_getElem (by omega)]; rfl) (fun j hj => hB.frozen _)
  have hb := bk_cells (List.replicate dLen (.int .u8 0)) off w cur hB (by simpa using hfit)
  refine wpList_plain hgd fun K hK => ?_
  unfold Oper.wp
  simp [execOp, ho, resolve, invoke, builtin, hd, hr, Result.andThen]
  exact hK _ _ (h _ hb.1 hb.2)
def Went (w : World) (a a2 : Option Addr) : Prop := a2 = a ∨ ∃ b, a2 = some ⟨b, 0, none⟩ ∧ w.heap.size ≤ b
theorem Went.blk {w : World} {a a2 : Option Addr} (h : Went w a a2) {k : Nat} (hk : a2.map (·.block) = some k) : a.map (·.block) = some k ∨ w.heap.size ≤ k := by
 rcases h with rfl | ⟨b, rfl, hb⟩
 ·exact .inl hk
 ·cases hk; exact .inr hb
theorem run_append_b (w : World) (B : Nat) {a : Option Addr} {n cap : Nat} {l : List UInt8} (hown : Own w B a n cap l) {a' : Option Addr} {n' cap' : Nat} {r : List UInt8} (hr : Rd w a' n' cap' r) (hb : n + n' ≤ 140737488355328) (hB : B ≤ w.heap.size) (ty : TypeId) :
  ∃ a2 c2 w2, (Builtin.append_ #[32, 32] ty #[.slice a n cap, .slice a' n' cap']).run Tryz.prog w = .ok (.slice a2 (n + n') c2) w2 ∧ Own w2 B a2 (n + n') c2 (l ++ r) ∧ w.grownBy w2 (a.map (·.block)) ∧ Went w a a2 := by
 obtain ⟨i0, hi, hz0, hz1, hz2⟩ := info_parts Tryz.info5
 have hblk : (Value.slice a n cap).ownBlock = a.map (·.block) := by cases a <;> rfl
 cases a' with
 | none =>
  have hr0 : r = [] := by
   cases r with
   | nil => rfl
   | cons y ys =>
    obtain ⟨b, off, e, -⟩ := hr.cell 0 (by rw [← hr.len]; simp)
    cases e
  subst hr0
  have hn0 : n' = 0 := by rw [← hr.len]; rfl
  subst hn0
  have hc0 := hr.nul rfl
  subst hc0
  refine ⟨a, cap, w, ?_, by rw [List.append_nil]; exact hown, Cr _ _, .inl rfl⟩
  exact run_append_owned_none (P := Tryz.prog) w B 32 ty 5 i0 1 Tryz.underlying32 hi (.slice a n cap) n (cells l) hown
 | some ad =>
  have hnl : (cells r).length = n' := by simp [cells, hr.len]
  have hnews : ∀ j u, (cells r)[j]? = some u → w.cell? (ad.add j) = some u := by
   intro j u hu
   simp only [cells, List.getElem?_map] at hu
   have hj : j < r.length := by
    rcases Nat.lt_or_ge j r.length with h | h
    ·exact h
    ·rw [List.getElem?_eq_none h] at hu; cases hu
   obtain ⟨b, off, e, hc⟩ := hr.cell j (by rw [← hr.len]; exact hj)
   cases e
   rw [Af, hc, List.getD_eq_getElem?_getD]
   rw [List.getElem?_eq_getElem hj] at hu ⊢
   exact hu
  have gen : ∀ C, Own w C a n cap l → C ≤ w.heap.size → ∃ a2 c2 w2, (Builtin.append_ #[32, 32] ty #[.slice a n cap, .slice (some ad) n' cap']).run Tryz.prog w = .ok (.slice a2 (n + n') c2) w2 ∧ Own w2 C a2 (n + n') c2 (l ++ r) ∧ w.grownBy w2 (a.map (·.block)) := by
   intro C hC hCs
   obtain ⟨v', w', h1, h2, h3, -⟩ := run_append_own (P := Tryz.prog) w C 32 ty 5 i0 (.int .u8 0) 1 1 Tryz.underlying32 hi hz0 hz1 hz2 rfl (by decide) (.slice a n cap) n (cells l) hC ad n' cap' (cells r) (by rw [hnl]; omega) hnews (Bd r) (by unfold maxLen; omega) (by omega) hCs
   rw [← Av] at h2
   rw [hblk] at h3
   rcases h2.2 with ⟨rfl, h4⟩ | ⟨g2, c, cur, rfl, h4⟩
   ·refine ⟨none, 0, w', by rw [h1, h4], ?_, h3⟩
    unfold Own; rw [h4] at h2 ⊢; exact h2
   ·exact ⟨_, _, w', h1, h2, h3⟩
  obtain ⟨a2, c2, w2, h1, h2, h3⟩ := gen B hown hB
  refine ⟨a2, c2, w2, h1, h2, h3, ?_⟩
  rcases hown.2 with ⟨e, h0⟩ | ⟨g0, c, cur, e, h4, h5, h6, h7, h8, h9⟩
  ·cases e
   have hnil : l = [] := List.length_eq_zero_iff.1 hown.len
   subst hnil
   obtain ⟨a3, c3, w3, k1, k2, -⟩ := gen w.heap.size (Own.nil w _) (Nat.le_refl _)
   rw [h1] at k1
   cases k1
   rcases k2.2 with ⟨e, _⟩ | ⟨b, c, cur, e, hb, _⟩
   ·injection e with e1 e2 e3
    exact .inl e1
   ·injection e with e1 e2 e3
    exact .inr ⟨b, e1, hb⟩
  ·cases e
   by_cases hroom : n + n' ≤ cap
   ·have hrun := run_append_room (P := Tryz.prog) w 32 ty 5 i0 Tryz.underlying32 hi g0 n cap cur h5 ad n' cap' (cells r) (by rw [hz1, hnl]; omega) hnews (Bd r) hroom (by rw [hz1, hnl]; omega)
    rw [h1] at hrun
    cases hrun
    exact .inl rfl
   ·have hcl : ∀ j v, (cells l)[j]? = some v → w.cell? ((⟨g0, 0, none⟩ : Addr).add j) = some v := by
     intro j v hv
     have hj : j < l.length := by
      have := (List.getElem?_eq_some_iff.1 hv).1
      simpa [cells] using this
     have hl := hown.len
     rw [Af, Nat.zero_add]
     rw [← h9, List.getElem?_take] at hv
     rw [if_pos (by omega)] at hv
     simpa [World.cell?, h5] using hv
    have hrun := run_append_grow (P := Tryz.prog) w 32 ty 5 i0 (.int .u8 0) Tryz.underlying32 hi hz0 ⟨g0, 0, none⟩ n cap (cells l) (by rw [hz1]; exact hown.1) hcl ad n' cap' (cells r) (by rw [hz1, hnl]; omega) hnews (by omega) (by omega) (growslice_fits (by omega) (by rw [hz2]; omega))
    rw [h1] at hrun
    cases hrun
    exact .inr ⟨_, rfl, Nat.le_refl _⟩
theorem append_rowG {w : World} {ops : Array Oper} {rest : List Oper} {o : Oper} {ac : Act} {Q : Exit → Act → World → Prop} (hgd : o.guard = none) (s x : Operand) (ho : o.op = .call { callee := .builtin .append, args := #[s, x], argTypes := #[32, 32] })
  (B : Nat) {a : Option Addr} {n cap : Nat} {l : List UInt8} (hs : ac.eval s = .slice a n cap) (hown : Own w B a n cap l)
  {a' : Option Addr} {n' cap' : Nat} {r : List UInt8} (hx : ac.eval x = .slice a' n' cap') (hr : Rd w a' n' cap' r) (hb : n + n' ≤ 140737488355328) (hB : B ≤ w.heap.size)
  (h : ∀ a2 n2 c2 w2, n2 = n + n' → Hid (Own w2 B a2 n2 c2 (l ++ r)) → Hid (w.grownBy w2 (a.map (·.block))) → Hid (Went w a a2) → wpList Tryz.prog ops Q rest (ac.put o.dst (.slice a2 n2 c2)) w2) : wpList Tryz.prog ops Q (o :: rest) ac w := by
 obtain ⟨a2, c2, w2, h1, h2, h3, h4⟩ := run_append_b w B hown hr hb hB o.type
 exact Lib.wpList_append_run w hgd s x _ _ ho _ _ hs hx _ _ h1 (h _ _ _ _ rfl h2 h3 h4)
theorem zero_cells (k : Nat) : (Builtin.zeroCells (Value.int .u8 0).cells k).toList = List.replicate k (.int .u8 0) := by
 show (Builtin.zeroCells #[Value.int .u8 0] k).toList = _
 simp [Builtin.zeroCells]
 apply List.ext_getElem
 ·simp
 ·intro i h1 h2
  simp [Nat.mod_one]
theorem append_zeros {w : World} {ops : Array Oper} {rest : List Oper} {o : Oper} {ac : Act} {Q : Exit → Act → World → Prop} (hgd : o.guard = none) (s x : Operand) (ho : o.op = .call { callee := .builtin .append, args := #[s, x], argTypes := #[32, 3] })
  {g n c : Nat} {z : Int} (hs : ac.eval s = .slice (some ⟨g, 0, none⟩) n c) (hx : ac.eval x = .int .i64 z) (k : Nat) (hz : z = k) (hk : 0 < k) (cur : List Value) (hB : Bk w g cur) (hn : n ≤ cur.length) (hroom : c < n + k) (hb : n + k ≤ 140737488355328)
  (h : ∀ c2 w2, n + k ≤ c2 → c2 ≤ maxLen → Hid (Bk w2 w.heap.size (cur.take n ++ List.replicate (c2 - n) (.int .u8 0))) → Hid (w.grownBy w2 none) → wpList Tryz.prog ops Q rest (ac.put o.dst (.slice (some ⟨w.heap.size, 0, none⟩) (n + k) c2)) w2) : wpList Tryz.prog ops Q (o :: rest) ac w := by
 subst hz
 obtain ⟨i0, hi, hz0, hz1, hz2⟩ := info_parts Tryz.info5
 have hold : (Builtin.firstCells i0.size n (.slice (some ⟨g, 0, none⟩) n c)).run Tryz.prog w.drew = .ok (cur.take n).toArray w.drew := by
  rw [hz1]
  exact run_firstCells_some w.drew 1 n ⟨g, 0, none⟩ n c (cur.take n) (by rw [List.length_take]; omega) (fun j v hj => by
   rw [Af, hB.drew.cell, Nat.zero_add]
   rw [List.getElem?_take] at hj
   split at hj
   ·exact hj
   ·cases hj)
 have hrun := fun ty => Lib.run_append_grow_zeros (P := Tryz.prog) w 32 3 ty 5 i0 (.int .u8 0) .i64 .i64 Tryz.underlying32 Tryz.underlying3 hi hz0 (some ⟨g, 0, none⟩) n c (cur.take n) hold k hk (by omega) hroom (by omega) (by rw [hz2]; omega) (by rw [hz2]; exact growslice_fits hroom (by omega))
 have hge := grownCap_ge w (n + k) c 5
 have hle := grownCap_le_maxLen w (n + k) c 5 (by unfold maxLen; omega)
 generalize grownCap w (n + k) c 5 = G at hrun hge hle
 refine Lib.wpList_append_run w hgd s x 32 3 ho _ _ hs hx _ _ (hrun _) ?_
 refine h G _ hge hle ?_ (show w.grownBy _ none from ⟨rfl, rfl, rfl, by simp, fun j hj _ => heap_alloc_old w.drew _ hj⟩)
 show _ = _
 have := heap_alloc_new w.drew (.cells ((cur.take n).toArray ++ Builtin.zeroCells (Value.int .u8 0).cells k ++ Builtin.zeroCells (Value.int .u8 0).cells (G - (n + k))) 5)
 rw [show w.drew.heap.size = w.heap.size from rfl] at this
 rw [this]
 have e : (cur.take n).toArray ++ Builtin.zeroCells (Value.int .u8 0).cells k ++ Builtin.zeroCells (Value.int .u8 0).cells (G - (n + k)) = (cur.take n ++ List.replicate (G - n) (Value.int .u8 0)).toArray := by
  apply Array.toList_inj.1
  rw [Array.toList_append, Array.toList_append, zero_cells, zero_cells, List.append_assoc, List.replicate_append_replicate, show k + (G - (n + k)) = G - n by omega]
 rw [e]
def Cc (w : World) (B : Nat) (a : Option Addr) (l : List UInt8) (e : Ending) (w' : World) : Prop :=
 ∃ a' n' c', e = .returned (.slice a' n' c') ∧ Own w' B a' n' c' l ∧ w.grownBy w' (a.map (·.block)) ∧ Went w a a'
theorem splice_get (L : List Value) (off : Nat) (cs : List Value) (h : off + cs.length ≤ L.length) (j : Nat) : (splice L off cs)[j]? = if j < off then L[j]? else if j < off + cs.length then cs[j - off]? else L[j]? := by
 unfold splice
 rw [List.getElem?_append, List.length_take, Nat.min_eq_left (by omega)]
 split
 ·rw [List.getElem?_take, if_pos (by assumption)]
 ·rw [List.getElem?_append]
  split
  ·rw [if_pos (by omega)]
  ·rw [if_neg (by omega), List.getElem?_drop]; congr 1; omega
theorem get_take (L : List Value) (n j : Nat) : (L.take n)[j]? = if j < n then L[j]? else none := List.getElem?_take
theorem of_take {cur L : List Value} {n : Nat} (h : cur.take n = L) (j : Nat) (hj : j < n) : cur[j]? = L[j]? := by rw [← h, List.getElem?_take, if_pos hj]
theorem ins_place (cur L R : List Value) (i m n : Nat) (h : cur.take n = L) (hL : L.length = n) (hR : R.length = m) (hc : n + m ≤ cur.length) (hi : i ≤ n) :
  (splice (splice cur (i + m) (L.drop i)) i R).take (n + m) = L.take i ++ (R ++ L.drop i) := by
 have h1 : (splice cur (i + m) (L.drop i)).length = cur.length := length_splice _ _ _ (by rw [List.length_drop]; omega)
 apply List.ext_getElem?
 intro j
 rw [get_take, splice_get _ _ _ (by rw [h1]; omega), splice_get _ _ _ (by rw [List.length_drop]; omega), List.getElem?_append, List.getElem?_append, List.length_take, List.length_drop, Nat.min_eq_left (by omega), get_take, List.getElem?_drop, List.getElem?_drop]
 have ho := of_take h j
 split
 ·split
  ·rw [if_pos (by omega), ← ho (by omega)]
  ·split
   ·rw [if_pos (by omega)]
   ·rw [if_neg (by omega), if_pos (by omega), if_neg (by omega)]; congr 1; omega
 ·rw [if_neg (by omega), if_neg (by omega), List.getElem?_eq_none (by omega)]
theorem ins_new (Z L R : List Value) (i m n : Nat) (hL : L.length = n) (hR : R.length = m) (hZ : n + m ≤ i + Z.length) (hi : i ≤ n) :
  (splice (splice (L.take i ++ Z) i R) (i + m) (L.drop i)).take (n + m) = L.take i ++ (R ++ L.drop i) := by
 have h0 : (L.take i ++ Z).length = i + Z.length := by rw [List.length_append, List.length_take]; omega
 have h1 : (splice (L.take i ++ Z) i R).length = i + Z.length := by rw [length_splice _ _ _ (by omega), h0]
 apply List.ext_getElem?
 intro j
 rw [get_take, splice_get _ _ _ (by rw [h1, List.length_drop]; omega), splice_get _ _ _ (by omega), List.getElem?_append, List.getElem?_append, List.getElem?_append, List.length_take, List.length_drop, Nat.min_eq_left (by omega), get_take, List.getElem?_drop, List.getElem?_drop]
 split
 ·split
  ·split
   ·rfl
   ·rw [if_pos (by omega), if_pos (by omega)]
  ·rw [if_pos (by omega), if_neg (by omega), if_neg (by omega)]; congr 1; omega
 ·rw [if_neg (by omega), if_neg (by omega), List.getElem?_eq_none (by omega)]
theorem A7 (l : List UInt8) : (cells l).length = l.length := List.length_map ..
theorem Ca (l : List UInt8) (n : Nat) : (cells l).take n = cells (l.take n) := (List.map_take ..).symm
theorem cells_drop (l : List UInt8) (n : Nat) : (cells l).drop n = cells (l.drop n) := (List.map_drop ..).symm
theorem apart_any {w : World} {g h : Nat} {cg ch : List Value} (hg : Bk w g cg) (hh : Bk w h ch) (hne : g ≠ h) (hpos : ch.length ≠ 0) (o o' la ca lb cb : Nat) :
  (callFunc 270 #[.slice (some ⟨g, o, none⟩) la ca, .slice (some ⟨h, o', none⟩) lb cb]).run Tryz.prog w = .ok (.value (.bool false)) w := by
 rw [run_callFunc_extern Tryz.func270 (by kernel_rfl) (by kernel_rfl) (by kernel_rfl) (e := Extern.SlicesOverlaps.overlaps #[32, 32] #[4]) (by kernel_rfl),
   Lib.run_overlaps_apart w 32 4 5 Tryz.underlying32 1 Tryz.size5 ⟨g, o, none⟩ ⟨h, o', none⟩ la ca lb cb hne 5 5 _ _ hg.shape hh.shape hpos (hg.frozen _) (hg.frozen _)]
 rfl
set_option maxRecDepth 100000 in
set_option maxHeartbeats 4000000 in
theorem insert_none (B : Nat) (a : Option Addr) (n c : Nat) (l : List UInt8) (a2 : Option Addr) (c2 i : Nat) (w : World) (hO : Own w B a n c l) (hi : i ≤ n) :
  Calls Tryz.prog 269 #[.slice a n c, .int .i64 i, .slice a2 0 c2] w fun e w' => Cc w B a l e w' := by
 obtain ⟨a3, c3, hsl, -⟩ := hO.rd.slice_l i hi
 have HO : Hid (Own w B a n c l) := hO
 clear hO
 go_enter Tryz.func269, Tryz.ntmps269
 go_wp2
 go_ret
 exact ⟨_, _, _, rfl, HO.out, Cr _ _, .inl rfl⟩
set_option maxRecDepth 100000 in
set_option maxHeartbeats 4000000 in
theorem insert_end (B : Nat) (a : Option Addr) (n c : Nat) (l : List UInt8) (a2 : Option Addr) (m c2 : Nat) (r : List UInt8) (w : World) (hO : Own w B a n c l) (hV : Rd w a2 m c2 r) (hm : 0 < m) (hb : n + m ≤ 140737488355328) (hB : B ≤ w.heap.size) :
  Calls Tryz.prog 269 #[.slice a n c, .int .i64 n, .slice a2 m c2] w fun e w' => Cc w B a (l.take n ++ (r ++ l.drop n)) e w' := by
 obtain ⟨a3, c3, hsl, -⟩ := hO.rd.slice_l n (Nat.le_refl _)
 have HO : Hid (Own w B a n c l) := hO
 have HV : Hid (Rd w a2 m c2 r) := hV
 have HM : Hid (n + m ≤ 140737488355328) := hb
 have HB : Hid (B ≤ w.heap.size) := hB
 have HL : Hid (l.take n ++ (r ++ l.drop n) = l ++ r) := by
  have := hO.len
  show _ = _
  rw [List.take_of_length_le (by omega), List.drop_eq_nil_of_le (by omega), List.append_nil]
 clear hO hV
 have hz1 : ¬ ((m : Int) = 0) := by omega
 go_enter Tryz.func269, Tryz.ntmps269
 go_wp2_with (at_builtin; refine append_rowG rfl (.tmp 23) (.tmp 24) rfl B rfl HO.out rfl HV.out HM.out HB.out ?_; intro a4 n4 c4 w4 hn4 HO4 HG4 HW4; clear hn4)
 go_ret
 exact ⟨_, _, _, rfl, by rw [HL.out]; exact HO4.out, HG4.out, HW4.out⟩
theorem cell_of {w : World} {g : Nat} {cur : List Value} {l : List UInt8} {n : Nat} (hB : Bk w g cur) (ht : cur.take n = cells l) (i : Nat) (hl : l.length ≤ n) : ∀ j v, (cells (l.drop i))[j]? = some v → w.cell? ((⟨g, i, none⟩ : Addr).add j) = some v := by
 intro j v hv
 rw [Af, hB.cell]
 have hj : i + j < l.length := by
  rw [← cells_drop, List.getElem?_drop] at hv
  have := (List.getElem?_eq_some_iff.1 hv).1
  rwa [A7] at this
 rw [of_take ht _ (by omega)]
 rw [← cells_drop, List.getElem?_drop] at hv
 exact hv
theorem cell_all {w : World} {g : Nat} {cur : List Value} {l : List UInt8} {n : Nat} (hB : Bk w g cur) (ht : cur.take n = cells l) (hl : l.length ≤ n) : ∀ j v, (cells l)[j]? = some v → w.cell? ((⟨g, 0, none⟩ : Addr).add j) = some v := by
 intro j v hv
 exact cell_of hB ht 0 hl j v (by simpa using hv)
set_option maxRecDepth 100000 in
set_option maxHeartbeats 4000000 in
theorem insert_room (B : Nat) (g n c : Nat) (l : List UInt8) (h m c2 : Nat) (r : List UInt8) (i : Nat) (w : World) (cur cv : List Value) (hBg : B ≤ g) (hg : Bk w g cur) (hh : Bk w h cv) (hne : h ≠ g) (hn : n ≤ c) (hcm : c ≤ maxLen) (hcl : cur.length = c) (ht : cur.take n = cells l) (htv : cv.take m = cells r)
  (hl : l.length = n) (hr : r.length = m) (hi : i < n) (hm : 0 < m) (hroom : n + m ≤ c) :
  Calls Tryz.prog 269 #[.slice (some ⟨g, 0, none⟩) n c, .int .i64 i, .slice (some ⟨h, 0, none⟩) m c2] w fun e w' => Cc w B (some ⟨g, 0, none⟩) (l.take i ++ (r ++ l.drop i)) e w' := by
 unfold maxLen at hcm
 obtain ⟨t, hT⟩ : ∃ t, n + m = t := ⟨_, rfl⟩
 obtain ⟨k, hK⟩ : ∃ k, i + m = k := ⟨_, rfl⟩
 have hTi : (n : Int) + (m : Int) = t := by omega
 have hKi : (i : Int) + (m : Int) = k := by omega
 obtain ⟨o1, -, s1⟩ := Az g n c i (by omega)
 have s2 := Bp g n c t (by omega)
 obtain ⟨o3, ho3, s3⟩ := Az g t c k (by omega)
 obtain ⟨o4, ho4, s4⟩ := Az g t c i (by omega)
 have hO3 : Hid (k < c → o3 = k) := ho3
 have hO4 : o4 = i := ho4 (by omega)
 subst hO4
 have hov := fun lb cb => apart_any hh hg hne (by omega) 0 o3 m c2 lb cb
 have HG : Hid (Bk w.drew g cur) := hg.drew
 have HH : Hid (Bk w h cv) := hh
 obtain ⟨X, hX⟩ : ∃ X, X = cells (l.drop o4) := ⟨_, rfl⟩
 obtain ⟨Y, hY⟩ : ∃ Y, Y = cells r := ⟨_, rfl⟩
 have hXl : X.length = n - o4 := by rw [hX, A7, List.length_drop]; omega
 have hYl : Y.length = m := by rw [hY, A7]; omega
 have HX1 : Hid (X.length = Nat.min (t - o4) (t - k)) := by show X.length = min _ _; rw [hXl, Nat.min_def]; split <;> omega
 have HX2 : Hid (CpOk w.drew (some (⟨g, o3, none⟩ : Addr)) (some (⟨g, o4, none⟩ : Addr)) g k X) := fun h0 =>
  ⟨by rw [ho3 (by omega)], _, rfl, by rw [hX]; exact cell_of hg.drew ht o4 (by omega)⟩
 have HX3 : Hid (k + X.length ≤ cur.length) := by show _ ≤ _; omega
 have HX4 : Hid (∀ v ∈ X, v.oneCell' = true) := by show ∀ _, _; rw [hX]; exact Bd _
 have HY1 : Hid (Y.length = Nat.min m (t - o4)) := by show Y.length = min _ _; rw [hYl, Nat.min_def]; split <;> omega
 have HY4 : Hid (∀ v ∈ Y, v.oneCell' = true) := by show ∀ _, _; rw [hY]; exact Bd _
 have HYs : Hid (∀ w1 : World, Bk w1 h cv → ∀ j v, Y[j]? = some v → w1.cell? ((⟨h, 0, none⟩ : Addr).add j) = some v) := by
  show ∀ _, _
  intro w1 h1
  rw [hY]; exact cell_all h1 htv (by omega)
 have HY3 : Hid (o4 + Y.length ≤ (splice cur k X).length) := by show _ ≤ _; rw [length_splice _ _ _ HX3.out]; omega
 have HL : Hid ((splice (splice cur k X) o4 Y).take t = cells (l.take o4 ++ (r ++ l.drop o4))) := by
  show _ = _
  rw [← hT, ← hK, hX, hY, Av, Av, ← Ca, ← cells_drop]
  exact ins_place cur (cells l) (cells r) o4 m n ht (by rw [A7]; omega) (by rw [A7]; omega) (by omega) (by omega)
 have HC : Hid ((splice (splice cur k X) o4 Y).length = c) := by show _ = _; rw [length_splice _ _ _ HY3.out, length_splice _ _ _ HX3.out, hcl]
 have HN : Hid (some h ≠ some g) := fun e => hne (Option.some.inj e)
 have HBg : Hid (B ≤ g) := hBg
 have hz1 : ¬ ((m : Int) = 0) := by omega
 have hz2 : ¬ ((o4 : Int) = (n : Int)) := by omega
 have hw1 : IntKind.i64.wrap (k : Int) = k := by rw [IntKind.wrap_i64]; omega
 clear hX hY hXl hYl ht htv hcl hg hh ho3 ho4 hBg hne
 go_enter Tryz.func269, Tryz.ntmps269
 go_wp2_with (simp only [hov])
 go_region_law (refine Co rfl (.tmp 73) (.tmp 76) rfl (by simp [Act.eval, Act.put]; rfl) (by simp [Act.eval, Act.put]; rfl) g k cur HG.out X HX1.out HX2.out HX3.out HX4.out ?_; intro w1 HB1 HG1)
 have HY2 : Hid (CpOk w1 (some (⟨g, o4, none⟩ : Addr)) (some (⟨h, 0, none⟩ : Addr)) g o4 Y) := fun _ =>
  ⟨rfl, _, rfl, HYs.out w1 (HH.out.keep (Bn HG1.out) HN.out)⟩
 go_wp2_with (refine copy_in rfl (.tmp 80) (.tmp 81) rfl rfl rfl g o4 _ HB1.out Y HY1.out HY2.out HY3.out HY4.out ?_; intro w2 HB2 HG2)
 go_ret
 exact ⟨_, _, _, rfl, Own.of HBg.out HB2.out (by omega) (by unfold maxLen; omega) HC.out HL.out, As (Bn HG1.out) HG2.out, .inl rfl⟩
set_option maxRecDepth 100000 in
set_option maxHeartbeats 4000000 in
theorem insert_grow (B : Nat) (g n c : Nat) (l : List UInt8) (h m c2 : Nat) (r : List UInt8) (i : Nat) (w : World) (cur cv : List Value) (hBw : B ≤ w.heap.size) (hg : Bk w g cur) (hh : Bk w h cv) (hn : n ≤ c) (hcm : c ≤ maxLen) (hcl : cur.length = c) (ht : cur.take n = cells l) (htv : cv.take m = cells r)
  (hl : l.length = n) (hr : r.length = m) (hi : i < n) (hm : 0 < m) (hroom : c < n + m) (hb : n + m ≤ 140737488355328) :
  Calls Tryz.prog 269 #[.slice (some ⟨g, 0, none⟩) n c, .int .i64 i, .slice (some ⟨h, 0, none⟩) m c2] w fun e w' => Cc w B (some ⟨g, 0, none⟩) (l.take i ++ (r ++ l.drop i)) e w' := by
 unfold maxLen at hcm
 obtain ⟨t, hT⟩ : ∃ t, n + m = t := ⟨_, rfl⟩
 obtain ⟨k, hK⟩ : ∃ k, i + m = k := ⟨_, rfl⟩
 obtain ⟨q, hQ⟩ : ∃ q, t - i = q := ⟨_, rfl⟩
 have hTi : (n : Int) + (m : Int) = t := by omega
 have hKi : (i : Int) + (m : Int) = k := by omega
 have hQi : (t : Int) - (i : Int) = q := by omega
 have hct : (c : Int) < t := by omega
 obtain ⟨G, hG⟩ : ∃ G, w.heap.size = G := ⟨_, rfl⟩
 obtain ⟨o1, ho1, s1⟩ := Az g n c i (by omega)
 have hO1 : o1 = i := ho1 (by omega)
 subst hO1
 have s2 := Bp g n c o1 (by omega)
 have HA1 : Hid (0 < q) := by show _ < _; omega
 have HA2 : Hid (o1 ≤ cur.length) := by show _ ≤ _; omega
 have HA3 : Hid (c < o1 + q) := by show _ < _; omega
 have HA4 : Hid (o1 + q ≤ 140737488355328) := by show _ ≤ _; omega
 have HG : Hid (Bk w g cur) := hg
 have HH : Hid (Bk w h cv) := hh
 obtain ⟨X, hX⟩ : ∃ X, X = cells (l.drop o1) := ⟨_, rfl⟩
 obtain ⟨Y, hY⟩ : ∃ Y, Y = cells r := ⟨_, rfl⟩
 have hXl : X.length = n - o1 := by rw [hX, A7, List.length_drop]; omega
 have hYl : Y.length = m := by rw [hY, A7]; omega
 have HX1 : Hid (X.length = Nat.min (n - o1) (t - k)) := by show X.length = min _ _; rw [hXl, Nat.min_def]; split <;> omega
 have HX4 : Hid (∀ v ∈ X, v.oneCell' = true) := by show ∀ _, _; rw [hX]; exact Bd _
 have HXs : Hid (∀ w1 : World, Bk w1 g cur → ∀ j v, X[j]? = some v → w1.cell? ((⟨g, o1, none⟩ : Addr).add j) = some v) := by
  show ∀ _, _
  intro w1 h1
  rw [hX]; exact cell_of h1 ht o1 (by omega)
 have HXk : Hid (0 < X.length → k < t) := by show _ → _; omega
 have HXk2 : Hid (k + X.length = t) := by show _ = _; omega
 have HY1 : Hid (Y.length = Nat.min m q) := by show Y.length = min _ _; rw [hYl, Nat.min_def]; split <;> omega
 have HYk : Hid (o1 + Y.length ≤ t) := by show _ ≤ _; omega
 have HY4 : Hid (∀ v ∈ Y, v.oneCell' = true) := by show ∀ _, _; rw [hY]; exact Bd _
 have HYs : Hid (∀ w1 : World, Bk w1 h cv → ∀ j v, Y[j]? = some v → w1.cell? ((⟨h, 0, none⟩ : Addr).add j) = some v) := by
  show ∀ _, _
  intro w1 h1
  rw [hY]; exact cell_all h1 htv (by omega)
 have HL : Hid (∀ Z : List Value, t ≤ o1 + Z.length → (splice (splice (cur.take o1 ++ Z) o1 Y) k X).take t = cells (l.take o1 ++ (r ++ l.drop o1))) := by
  show ∀ _, _
  intro Z hZ
  rw [← hT, ← hK, hX, hY, Av, Av, ← Ca, ← cells_drop]
  have e : cur.take o1 = (cells l).take o1 := by rw [← ht, List.take_take, Nat.min_eq_left (by omega)]
  rw [e]
  exact ins_new Z (cells l) (cells r) o1 m n (by rw [A7]; omega) (by rw [A7]; omega) (by omega) (by omega)
 have HT : Hid (o1 + q = t) := by show _ = _; omega
 have HBw : Hid (B ≤ G) := by show _ ≤ _; omega
 have HGg : Hid (g < G) := by have := hg.lt; show _ < _; omega
 have HGh : Hid (h < G) := by have := hh.lt; show _ < _; omega
 have HGe : Hid (w.heap.size = G) := hG
 have hz1 : ¬ ((m : Int) = 0) := by omega
 have hz2 : ¬ ((o1 : Int) = (n : Int)) := by omega
 have hw1 : IntKind.i64.wrap (k : Int) = k := by rw [IntKind.wrap_i64]; omega
 have hkt : k ≤ t := by omega
 have hot : o1 ≤ t := by omega
 clear hX hY hXl hYl ht htv hcl hg hh ho1 hG hQ
 go_enter Tryz.func269, Tryz.ntmps269
 go_wp2_with (at_builtin; refine append_zeros rfl (.tmp 34) (.tmp 39) rfl rfl rfl q rfl HA1.out cur HG.out HA2.out HA3.out HA4.out ?_; intro c3 w1 hc3 hc4 HB1 HG1)
 rw [HGe.out] at HB1
 rw [HT.out] at hc3
 rw [HGe.out, HT.out]
 unfold maxLen at hc4
 obtain ⟨o3, ho3, s3⟩ := Az G t c3 o1 (by omega)
 obtain ⟨o4, ho4, s4⟩ := Az G t c3 k (by omega)
 have hO3 : o3 = o1 := ho3 (by omega)
 subst hO3
 have HZ : Hid ((cur.take o3 ++ List.replicate (c3 - o3) (Value.int .u8 0)).length = c3) := by
  have := HA2.out
  show _ = _
  rw [List.length_append, List.length_take, List.length_replicate]; omega
 have HZ2 : Hid (t ≤ o3 + (List.replicate (c3 - o3) (Value.int .u8 0)).length) := by show _ ≤ _; rw [List.length_replicate]; omega
 obtain ⟨Z, hZ⟩ : ∃ Z, List.replicate (c3 - o3) (Value.int .u8 0) = Z := ⟨_, rfl⟩
 rw [hZ] at HB1 HZ HZ2
 obtain ⟨C0, hC0⟩ : ∃ C0, cur.take o3 ++ Z = C0 := ⟨_, rfl⟩
 have HLL := HL.out Z HZ2.out
 rw [hC0] at HB1 HZ HLL
 have HLL' : Hid ((splice (splice C0 o3 Y) k X).take t = cells (l.take o3 ++ (r ++ l.drop o3))) := HLL
 have HY2 : Hid (CpOk w1 (some (⟨G, o3, none⟩ : Addr)) (some (⟨h, 0, none⟩ : Addr)) G o3 Y) := fun _ =>
  ⟨rfl, _, rfl, HYs.out w1 (HH.out.keep HG1.out (by simp))⟩
 have HY3 : Hid (o3 + Y.length ≤ C0.length) := by
  have := HYk.out
  have := HZ.out
  show _ ≤ _
  omega
 clear HLL hZ hC0 HZ2 ho3
 obtain ⟨w2, hr2, hB2, hG2⟩ := Cm w1 _ _ q (c3 - o3) m c2 G o3 C0 HB1.out Y HY1.out HY2.out HY3.out HY4.out
 have HB2 : Hid (Bk w2 G (splice C0 o3 Y)) := hB2
 have HG2 : Hid (w1.grownBy w2 (some G)) := hG2
 clear hB2 hG2
 go_wp2_with (simp only [hr2])
 have HGd : Hid (Bk w2.drew G (splice C0 o3 Y)) := HB2.out.drew
 have HX2 : Hid (CpOk w2.drew (some (⟨G, o4, none⟩ : Addr)) (some (⟨g, o3, none⟩ : Addr)) G k X) := fun h0 =>
  ⟨by have := HXk.out h0; rw [ho4 (by omega)], _, rfl, HXs.out w2.drew ((HG.out.keep HG1.out (by simp)).keep HG2.out (by intro e; have := Option.some.inj e; have := HGg.out; omega)).drew⟩
 have HX3 : Hid (k + X.length ≤ (splice C0 o3 Y).length) := by
  have := HXk2.out
  have := HZ.out
  show _ ≤ _
  rw [length_splice _ _ _ HY3.out]; omega
 go_region_law (refine Co rfl (.tmp 50) (.tmp 53) rfl (by simp [Act.eval, Act.put]; rfl) (by simp [Act.eval, Act.put]; rfl) G k _ HGd.out X HX1.out HX2.out HX3.out HX4.out ?_; intro w3 HB3 HG3)
 go_wp2
 go_ret
 refine ⟨_, _, _, rfl, Own.of HBw.out HB3.out hc3 (by unfold maxLen; omega) (by rw [length_splice _ _ _ HX3.out, length_splice _ _ _ HY3.out]; exact HZ.out) HLL'.out, ?_, .inr ⟨_, rfl, Nat.le_of_eq HGe.out⟩⟩
 have e1 : w.grownBy w1 (Option.map (fun x => x.block) (some (⟨g, 0, none⟩ : Addr))) := ⟨HG1.out.os, HG1.out.tape, HG1.out.output, HG1.out.size, fun k hk _ => HG1.out.block k hk (by simp)⟩
 exact grown_new (grown_new e1 (by have := HGe.out; omega) HG2.out) (by have := HGe.out; omega) (Bn HG3.out)
theorem Insert_sl (B C : Nat) (a : Option Addr) (n c : Nat) (l : List UInt8) (a2 : Option Addr) (m c2 : Nat) (r : List UInt8) (i : Nat) (w : World) (hO : Own w B a n c l) (hV : Own w C a2 m c2 r) (hC : ∀ x, a = some x → x.block < C) (hi : i ≤ n) (hb : n + m ≤ 140737488355328) (hB : B ≤ w.heap.size) :
  Calls Tryz.prog 269 #[.slice a n c, .int .i64 i, .slice a2 m c2] w fun e w' => Cc w B a (l.take i ++ (r ++ l.drop i)) e w' := by
 have hl := hO.len
 have hr := hV.len
 by_cases hm : m = 0
 ·subst hm
  have h0 : r = [] := List.length_eq_zero_iff.1 hr
  subst h0
  rw [List.nil_append, List.take_append_drop]
  exact insert_none B a n c l a2 c2 i w hO hi
 ·by_cases hin : i = n
  ·subst hin
   exact insert_end B a i c l a2 m c2 r w hO hV.rd (by omega) hb hB
  ·obtain ⟨g, cur, rfl, h1, h2, h3, h4, h5, h6⟩ := hO.parts (by omega)
   obtain ⟨h, cv, rfl, k1, k2, k3, k4, k5, k6⟩ := hV.parts (by omega)
   have hne : h ≠ g := by have := hC _ rfl; simp at this; omega
   by_cases hroom : n + m ≤ c
   ·exact insert_room B g n c l h m c2 r i w cur cv h1 h2 k2 hne h3 h4 h5 h6 k6 hl hr (by omega) (by omega) hroom
   ·exact insert_grow B g n c l h m c2 r i w cur cv hB h2 k2 h3 h4 h5 h6 k6 hl hr (by omega) (by omega) (by omega) hb
end Go.Proofs.YtmjeljldmmkcpaaGreat
