/- Texts that the others stand on. -/
import Derived.Test.YtmjeljldmmkcpaaGreatK17
import Derived.Laws.CopyOwn
import Derived.Lib.Overlaps
import Derived.Lib.SliceRun
import Derived.Lib.AppendZerosOnto
import Derived.Deep.RegionLaw
namespace Go.Proofs.YtmjeljldmmkcpaaGreat
open Go.RowKit Go.PlainAid
def Bk (w : World) (g : Nat) (cur : List Value) : Prop := w.heap[g]? = some (.cells cur.toArray 5 (0, 0))
theorem Bk.lt {w : World} {g : Nat} {cur : List Value} (h : Bk w g cur) : g < w.heap.size := (Array.getElem?_eq_some_iff.1 h).1
theorem Bk.cell {w : World} {g : Nat} {cur : List Value} (h : Bk w g cur) (j : Nat) : w.cell? ⟨g, j, none⟩ = cur[j]? := by
 have h' : w.heap[g]? = some (.cells cur.toArray 5 (0, 0)) := h
 simp [World.cell?, h']
theorem Bk.frozen {w : World} {g : Nat} {cur : List Value} (h : Bk w g cur) (j : Nat) : w.frozen? ⟨g, j, none⟩ = false := by
 have h' : w.heap[g]? = some (.cells cur.toArray 5 (0, 0)) := h
 simp [World.frozen?, h']
theorem Bk.shape {w : World} {g : Nat} {cur : List Value} (h : Bk w g cur) : w.shape? g = some (5, cur.length) := by
 have h' : w.heap[g]? = some (.cells cur.toArray 5 (0, 0)) := h
 simp [World.shape?, h']
theorem Bk.drew {w : World} {g : Nat} {cur : List Value} (h : Bk w g cur) : Bk w.drew g cur := h
theorem Bk.keep {w w' : World} {g : Nat} {cur : List Value} {row : Option Nat} (h : Bk w g cur) (hg : w.grownBy w' row) (hne : some g ≠ row) : Bk w' g cur := by
 show _ = _
 rw [hg.block g h.lt hne]; exact h
theorem Cq (w : World) (row : Option Nat) : w.grownBy w row := ⟨rfl, rfl, rfl, Nat.le_refl _, fun _ _ _ => rfl⟩
theorem As {w w1 w2 : World} {row : Option Nat} (h1 : w.grownBy w1 row) (h2 : w1.grownBy w2 row) : w.grownBy w2 row :=
 ⟨h2.os.trans h1.os, h2.tape.trans h1.tape, h2.output.trans h1.output, Nat.le_trans h1.size h2.size, fun k hk hr => (h2.block k (Nat.lt_of_lt_of_le hk h1.size) hr).trans (h1.block k hk hr)⟩
theorem grown_new {w w1 w2 : World} {row : Option Nat} {g : Nat} (h1 : w.grownBy w1 row) (hg : w.heap.size ≤ g) (h2 : w1.grownBy w2 (some g)) : w.grownBy w2 row :=
 ⟨h2.os.trans h1.os, h2.tape.trans h1.tape, h2.output.trans h1.output, Nat.le_trans h1.size h2.size, fun k hk hr => (h2.block k (Nat.lt_of_lt_of_le hk h1.size) (by intro e; cases e; omega)).trans (h1.block k hk hr)⟩
theorem Bn {w w1 : World} {row : Option Nat} (h : w.drew.grownBy w1 row) : w.grownBy w1 row := ⟨h.os, h.tape, h.output, h.size, h.block⟩
theorem grown_setRow (w : World) (g : Nat) (cs : Array Value) : w.grownBy (w.setRow g cs) (some g) :=
 ⟨rfl, rfl, rfl, by simp [World.setRow], fun k _ hr => setRow_other w g k cs (fun e => hr (by rw [e]))⟩
theorem Cy (w : World) (g o : Nat) (v : Value) : w.grownBy (w.setCell ⟨g, o, none⟩ v) (some g) :=
 ⟨rfl, rfl, rfl, by simp [World.setCell], fun k _ hr => Deep.blk_setCell_other w _ v k (fun e => hr (by rw [e]))⟩
theorem below_grown {w w' : World} (h : Below w.heap.size w w') (row : Option Nat) : w.grownBy w' row := ⟨h.os, h.tape, h.output, h.size, fun k hk _ => h.block k hk⟩
theorem Own.parts {w : World} {B : Nat} {a : Option Addr} {n c : Nat} {l : List UInt8} (h : Own w B a n c l) (h0 : 0 < n) :
  ∃ g cur, a = some ⟨g, 0, none⟩ ∧ B ≤ g ∧ Bk w g cur ∧ n ≤ c ∧ c ≤ maxLen ∧ cur.length = c ∧ cur.take n = cells l := by
 rcases h.2 with ⟨h2, h3⟩ | ⟨g, c', cur, h1, h3, h4, h5, h6, h7, h8⟩
 ·omega
 ·cases h1
  refine ⟨g, cur.toList, rfl, h3, by show _ = _; simpa using h4, h5, h6, by simpa using h7, ?_⟩
  simpa using h8
theorem Own.of {w : World} {B g n c : Nat} {cur : List Value} {l : List UInt8} (hB : B ≤ g) (hk : Bk w g cur) (hn : n ≤ c) (hc : c ≤ maxLen) (hl : cur.length = c) (ht : cur.take n = cells l) : Own w B (some ⟨g, 0, none⟩) n c l := by
 have hlen : l.length = n := by
  have := congrArg List.length ht
  simp [cells] at this
  omega
 refine ⟨by simp [cells, hlen], .inr ⟨g, c, cur.toArray, rfl, hB, hk, hn, hc, by simp [hl], by simpa using ht⟩⟩
theorem Own.grow {w w' : World} {B : Nat} {a : Option Addr} {n c : Nat} {l : List UInt8} {row : Option Nat} (h : Own w B a n c l) (hg : w.grownBy w' row) (hne : ∀ g, a = some ⟨g, 0, none⟩ → some g ≠ row) : Own w' B a n c l := by
 refine ⟨h.1, ?_⟩
 rcases h.2 with h2 | ⟨g, c', cur, h1, h3, h4, h5⟩
 ·exact .inl h2
 ·cases h1
  refine .inr ⟨g, _, cur, rfl, h3, ?_, h5⟩
  rw [hg.block g (Array.getElem?_eq_some_iff.1 h4).1 (hne g rfl)]; exact h4
theorem slice_at (g n c lo hi : Nat) (h1 : lo ≤ hi) (h2 : hi ≤ c) :
  ∃ o, (lo < c → o = lo) ∧ ∀ wx, (Instr.sliceAt 32 (.slice (some ⟨g, 0, none⟩) n c) (some (.int .i64 lo)) (some (.int .i64 hi)) none).run Tryz.prog wx = .ok (.slice (some ⟨g, o, none⟩) (hi - lo) (c - lo)) wx := by
 have ht : Tryz.prog.underlying 32 = some (.slice (Tryz.prog.elem 32)) := by rw [Tryz.elem32]; exact Tryz.underlying32
 refine ⟨if c = lo then 0 else lo, fun h => by rw [if_neg (by omega)], fun wx => ?_⟩
 rw [run_sliceAt_slice _ _ _ _ _ _ ht, run_slice_lh (P := Tryz.prog) wx 32 _ n c ht .i64 .i64 lo hi (by omega) (by omega) (by omega), Tryz.elem32, Tryz.size5]
 simp only [Result.andThen, sliced, Int.toNat_natCast]
 split <;> simp [*, Af]
theorem Az (g n c lo : Nat) (h1 : lo ≤ n) :
  ∃ o, (lo < c → o = lo) ∧ ∀ wx, (Instr.sliceAt 32 (.slice (some ⟨g, 0, none⟩) n c) (some (.int .i64 lo)) none none).run Tryz.prog wx = .ok (.slice (some ⟨g, o, none⟩) (n - lo) (c - lo)) wx := by
 have ht : Tryz.prog.underlying 32 = some (.slice (Tryz.prog.elem 32)) := by rw [Tryz.elem32]; exact Tryz.underlying32
 refine ⟨if c = lo then 0 else lo, fun h => by rw [if_neg (by omega)], fun wx => ?_⟩
 rw [run_sliceAt_slice _ _ _ _ _ _ ht, run_slice_l (P := Tryz.prog) wx 32 _ n c ht .i64 lo (by omega) (by omega), Tryz.elem32, Tryz.size5]
 simp only [Result.andThen, sliced, Int.toNat_natCast]
 split <;> simp [*, Af]
theorem Bq (g n c hi : Nat) (h1 : hi ≤ c) :
  ∀ wx, (Instr.sliceAt 32 (.slice (some ⟨g, 0, none⟩) n c) none (some (.int .i64 hi)) none).run Tryz.prog wx = .ok (.slice (some ⟨g, 0, none⟩) hi c) wx := by
 have ht : Tryz.prog.underlying 32 = some (.slice (Tryz.prog.elem 32)) := by rw [Tryz.elem32]; exact Tryz.underlying32
 intro wx
 rw [run_sliceAt_slice _ _ _ _ _ _ ht, run_slice_h (P := Tryz.prog) wx 32 _ n c ht .i64 hi (by omega) (by omega), Tryz.elem32, Tryz.size5]
 simp [Result.andThen, sliced, Af]
theorem cur_set {w : World} {g : Nat} {cur : List Value} (h : Bk w g cur) (o : Nat) (v : Value) : Bk (w.setCell ⟨g, o, none⟩ v) g (cur.set o v) := by
 have h' : w.heap[g]? = some (.cells cur.toArray 5 (0, 0)) := h
 have hlt : g < w.heap.size := (Array.getElem?_eq_some_iff.1 h').1
 have hv : w.heap[g] = .cells cur.toArray 5 (0, 0) := (Array.getElem?_eq_some_iff.1 h').2
 show (w.setCell ⟨g, o, none⟩ v).heap[g]? = _
 simp [World.setCell, Array.getElem?_modify, h']
theorem splice_set (cur : List Value) (o : Nat) (v : Value) (vs : List Value) (h : o + (vs.length + 1) ≤ cur.length) : splice (cur.set o v) (o + 1) vs = splice cur o (v :: vs) := by
 unfold splice
 rw [List.length_cons, List.take_set, List.drop_set_of_lt (by omega), show o + 1 + vs.length = o + (vs.length + 1) by omega]
 have : (cur.take (o + 1)).set o v = cur.take o ++ [v] := by
  rw [List.take_add_one, List.getElem?_eq_getElem (by omega), Option.toList_some, List.set_append_right _ _ (by rw [List.length_take]; omega)]
  rw [List.length_take, Nat.min_eq_left (by omega), Nat.sub_self]; rfl
 rw [this, List.append_assoc]; rfl
theorem bk_cells {g : Nat} : ∀ (vs : List Value) (o : Nat) (w : World) (cur : List Value), Bk w g cur → o + vs.length ≤ cur.length → Bk (w.setCells g o vs) g (splice cur o vs) ∧ w.grownBy (w.setCells g o vs) (some g)
 | [], o, w, cur, h, hl => ⟨by simpa [splice, World.setCells] using h, Cq _ _⟩
 | v :: vs, o, w, cur, h, hl => by
  have h1 := bk_cells vs (o + 1) (w.setCell ⟨g, o, none⟩ v) (cur.set o v) (cur_set h o v) (by simp at hl ⊢; omega)
  rw [splice_set cur o v vs (by simpa using hl)] at h1
  exact ⟨h1.1, As (Cy w g o v) h1.2⟩
def CpOk (w : World) (dp sp : Option Addr) (g off : Nat) (cs : List Value) : Prop := 0 < cs.length → dp = some ⟨g, off, none⟩ ∧ ∃ ad, sp = some ad ∧ ∀ j v, cs[j]? = some v → w.cell? (ad.add j) = some v
theorem Ck (w : World) (dp sp : Option Addr) (dLen dCap sLen sCap g off : Nat) (cur : List Value) (hB : Bk w g cur) (cs : List Value) (hn : cs.length = Nat.min sLen dLen)
  (hpos : CpOk w dp sp g off cs) (hfit : off + cs.length ≤ cur.length) (h1 : ∀ v ∈ cs, v.oneCell' = true) :
  ∃ w', (∀ ty, (Builtin.copy_ #[32, 32] ty #[.slice dp dLen dCap, .slice sp sLen sCap]).run Tryz.prog w = .ok (goInt cs.length) w') ∧ Bk w' g (splice cur off cs) ∧ w.grownBy w' (some g) := by
 by_cases h0 : cs.length = 0
 ·obtain rfl : cs = [] := List.eq_nil_of_length_eq_zero h0
  refine ⟨w, fun ty => ?_, by simpa [splice] using hB, Cq _ _⟩
  exact run_copy_none (P := Tryz.prog) w 32 32 ty 5 dp sp dLen dCap sLen sCap Tryz.underlying32 (by kernel_rfl) (by simpa using hn.symm)
 ·obtain ⟨rfl, ad, rfl, hsrc⟩ := hpos (by omega)
  refine ⟨_, fun ty => run_copy_row (P := Tryz.prog) w 32 32 ty 5 g off dLen dCap ad sLen sCap cur.toArray 5 cs Tryz.underlying32 (by kernel_rfl) hB hn hsrc (by simpa using hfit) h1, ?_, grown_setRow _ _ _⟩
  show _ = _
  rw [setRow_heap w g cur.toArray _ 5 (0, 0) hB]
  simp [splice]
theorem copy_in {w : World} {ops : Array Oper} {rest : List Oper} {o : Oper} {ac : Act} {Q : Exit → Act → World → Prop} (hgd : o.guard = none) (d s : Operand) (ho : o.op = .call { callee := .builtin .copy, args := #[d, s], argTypes := #[32, 32] })
  {dp sp : Option Addr} {dLen dCap sLen sCap : Nat} (hd : ac.eval d = .slice dp dLen dCap) (hs : ac.eval s = .slice sp sLen sCap)
  (g off : Nat) (cur : List Value) (hB : Bk w g cur) (cs : List Value) (hn : cs.length = Nat.min sLen dLen)
  (hpos : CpOk w dp sp g off cs) (hfit : off + cs.length ≤ cur.length) (h1 : ∀ v ∈ cs, v.oneCell' = true)
  (h : ∀ w', Hid (Bk w' g (splice cur off cs)) → Hid (w.grownBy w' (some g)) → wpList Tryz.prog ops Q rest (ac.put o.dst (goInt cs.length)) w') : wpList Tryz.prog ops Q (o :: rest) ac w := by
 obtain ⟨w', hr, h2, h3⟩ := Ck w dp sp dLen dCap sLen sCap g off cur hB cs hn hpos hfit h1
 refine wpList_plain hgd fun K hK => ?_
 unfold Oper.wp
 simp [execOp, ho, resolve, invoke, builtin, hd, hs, hr, Result.andThen]
 exact hK _ _ (h w' h2 h3)
theorem Cn {w : World} {ops : Array Oper} {o : Oper} {ac : Act} {K : Act → World → Prop} {Q : Exit → Act → World → Prop} {E : Prop} (hgd : o.guard = none) (d s : Operand) (ho : o.op = .call { callee := .builtin .copy, args := #[d, s], argTypes := #[32, 32] })
  {dp sp : Option Addr} {dLen dCap sLen sCap : Nat} (hd : ac.eval d = .slice dp dLen dCap) (hs : ac.eval s = .slice sp sLen sCap)
  (g off : Nat) (cur : List Value) (hB : Bk w g cur) (cs : List Value) (hn : cs.length = Nat.min sLen dLen)
  (hpos : CpOk w dp sp g off cs) (hfit : off + cs.length ≤ cur.length) (h1 : ∀ v ∈ cs, v.oneCell' = true)
  (h : ∀ w', Hid (Bk w' g (splice cur off cs)) → Hid (w.grownBy w' (some g)) → K (ac.put o.dst (goInt cs.length)) w') : if Region.wanted o (yielded ops ac.tmps) = true then Oper.wp Tryz.prog o ac w K Q else E := by
 have hw : Region.wanted o (yielded ops ac.tmps) = true := by simp [Region.wanted, hgd]
 rw [if_pos hw]
 obtain ⟨w', hr, h2, h3⟩ := Ck w dp sp dLen dCap sLen sCap g off cur hB cs hn hpos hfit h1
 unfold Oper.wp
 simp [execOp, ho, resolve, invoke, builtin, hd, hs, hr, Result.andThen]
 exact h w' h2 h3
theorem clear_in {w : World} {ops : Array Oper} {rest : List Oper} {o : Oper} {ac : Act} {Q : Exit → Act → World → Prop} (hgd : o.guard = none) (d : Operand) (ho : o.op = .call { callee := .builtin .clear, args := #[d], argTypes := #[32] })
  {g off dLen dCap : Nat} (hd : ac.eval d = .slice (some ⟨g, off, none⟩) dLen dCap) (cur : List Value) (hB : Bk w g cur) (hfit : off + dLen ≤ cur.length)
  (h : ∀ w', Hid (Bk w' g (splice cur off (List.replicate dLen (.int .u8 0)))) → Hid (w.grownBy w' (some g)) → wpList Tryz.prog ops Q rest (ac.put o.dst (.tuple #[])) w') : wpList Tryz.prog ops Q (o :: rest) ac w := by
 by_cases h0 : dLen = 0
 ·subst h0
  have hr : ∀ ty, (Builtin.clear_ #[32] ty #[.slice (some ⟨g, off, none⟩) 0 dCap]).run Tryz.prog w = .ok (.tuple #[]) w := by
   intro ty
   simp [Builtin.clear_, run_underlying Tryz.underlying32]
  refine wpList_plain hgd fun K hK => ?_
  unfold Oper.wp
  simp [execOp, ho, resolve, invoke, builtin, hd, hr, Result.andThen]
  exact hK _ _ (h w (by show Bk _ _ _; simpa [splice] using hB) (Cq _ _))
 ·have hz : ∀ w, (zeroValue 5).run Tryz.prog w = .ok (.int .u8 0) w := fun w => by go_simp
  have hr := fun ty => Lib.run_clear_slice (P := Tryz.prog) w 32 5 ty (.int .u8 0) Tryz.underlying32 hz rfl rfl g off dLen dCap (by omega)
   (fun j hj => by rw [hB.cell, List.getElem?_eq_getElem (by omega)]; rfl) (fun j hj => hB.frozen _)
  have hb := bk_cells (List.replicate dLen (.int .u8 0)) off w cur hB (by simpa using hfit)
  refine wpList_plain hgd fun K hK => ?_
  unfold Oper.wp
  simp [execOp, ho, resolve, invoke, builtin, hd, hr, Result.andThen]
  exact hK _ _ (h _ hb.1 hb.2)
def Went (w : World) (a a2 : Option Addr) : Prop := a2 = a ∨ ∃ b, a2 = some ⟨b, 0, none⟩ ∧ w.heap.size ≤ b
theorem Went.blk {w : World} {a a2 : Option Addr} (h : Went w a a2) {k : Nat} (hk : a2.map (·.block) = some k) : a.map (·.block) = some k ∨ w.heap.size ≤ k := by
 rcases h with rfl | ⟨b, rfl, hb⟩
 ·exact .inl hk
 ·cases hk; exact .inr hb
theorem run_append_b (w : World) (B : Nat) {a : Option Addr} {n cap : Nat} {l : List UInt8} (hown : Own w B a n cap l) {a' : Option Addr} {n' cap' : Nat} {r : List UInt8} (hr : Rd w a' n' cap' r) (hb : n + n' ≤ 140737488355328) (hB : B ≤ w.heap.size) (ty : TypeId) :
  ∃ a2 c2 w2, (Builtin.append_ #[32, 32] ty #[.slice a n cap, .slice a' n' cap']).run Tryz.prog w = .ok (.slice a2 (n + n') c2) w2 ∧ Own w2 B a2 (n + n') c2 (l ++ r) ∧ w.grownBy w2 (a.map (·.block)) ∧ Went w a a2 := by
 obtain ⟨i0, hi, hz0, hz1, hz2⟩ := info_parts Tryz.info5
 have hblk : (Value.slice a n cap).ownBlock = a.map (·.block) := by cases a <;> rfl
 cases a' with
 | none =>
  have hr0 : r = [] := by
   cases r with
   | nil => rfl
   | cons y ys =>
    obtain ⟨b, off, e, -⟩ := hr.cell 0 (by rw [← hr.len]; simp)
    cases e
  subst hr0
  have hn0 : n' = 0 := by rw [← hr.len]; rfl
  subst hn0
  have hc0 := hr.nul rfl
  subst hc0
  refine ⟨a, cap, w, ?_, by rw [List.append_nil]; exact hown, Cq _ _, .inl rfl⟩
  exact run_append_owned_none (P := Tryz.prog) w B 32 ty 5 i0 1 Tryz.underlying32 hi (.slice a n cap) n (cells l) hown
 | some ad =>
  have hnl : (cells r).length = n' := by simp [cells, hr.len]
  have hnews : ∀ j u, (cells r)[j]? = some u → w.cell? (ad.add j) = some u := by
   intro j u hu
   simp only [cells, List.getElem?_map] at hu
   have hj : j < r.length := by
    rcases Nat.lt_or_ge j r.length with h | h
    ·exact h
    ·rw [List.getElem?_eq_none h] at hu; cases hu
   obtain ⟨b, off, e, hc⟩ := hr.cell j (by rw [← hr.len]; exact hj)
   cases e
   rw [Af, hc, List.getD_eq_getElem?_getD]
   rw [List.getElem?_eq_getElem hj] at hu ⊢
   exact hu
  have gen : ∀ C, Own w C a n cap l → C ≤ w.heap.size → ∃ a2 c2 w2, (Builtin.append_ #[32, 32] ty #[.slice a n cap, .slice (some ad) n' cap']).run Tryz.prog w = .ok (.slice a2 (n + n') c2) w2 ∧ Own w2 C a2 (n + n') c2 (l ++ r) ∧ w.grownBy w2 (a.map (·.block)) := by
   intro C hC hCs
   obtain ⟨v', w', h1, h2, h3, -⟩ := run_append_own (P := Tryz.prog) w C 32 ty 5 i0 (.int .u8 0) 1 1 Tryz.underlying32 hi hz0 hz1 hz2 rfl (by decide) (.slice a n cap) n (cells l) hC ad n' cap' (cells r) (by rw [hnl]; omega) hnews (Bd r) (by unfold maxLen; omega) (by omega) hCs
   rw [← Av] at h2
   rw [hblk] at h3
   rcases h2.2 with ⟨rfl, h4⟩ | ⟨g2, c, cur, rfl, h4⟩
   ·refine ⟨none, 0, w', by rw [h1, h4], ?_, h3⟩
    unfold Own; rw [h4] at h2 ⊢; exact h2
   ·exact ⟨_, _, w', h1, h2, h3⟩
  obtain ⟨a2, c2, w2, h1, h2, h3⟩ := gen B hown hB
  refine ⟨a2, c2, w2, h1, h2, h3, ?_⟩
  rcases hown.2 with ⟨e, h0⟩ | ⟨g0, c, cur, e, h4, h5, h6, h7, h8, h9⟩
  ·cases e
   have hnil : l = [] := List.length_eq_zero_iff.1 hown.len
   subst hnil
   obtain ⟨a3, c3, w3, k1, k2, -⟩ := gen w.heap.size (Own.nil w _) (Nat.le_refl _)
   rw [h1] at k1
   cases k1
   rcases k2.2 with ⟨e, _⟩ | ⟨b, c, cur, e, hb, _⟩
   ·injection e with e1 e2 e3
    exact .inl e1
   ·injection e with e1 e2 e3
    exact .inr ⟨b, e1, hb⟩
  ·cases e
   by_cases hroom : n + n' ≤ cap
   ·have hrun := run_append_room (P := Tryz.prog) w 32 ty 5 i0 Tryz.underlying32 hi g0 n cap cur h5 ad n' cap' (cells r) (by rw [hz1, hnl]; omega) hnews (Bd r) hroom (by rw [hz1, hnl]; omega)
    rw [h1] at hrun
    cases hrun
    exact .inl rfl
   ·have hcl : ∀ j v, (cells l)[j]? = some v → w.cell? ((⟨g0, 0, none⟩ : Addr).add j) = some v := by
     intro j v hv
     have hj : j < l.length := by
      have := (List.getElem?_eq_some_iff.1 hv).1
      simpa [cells] using this
     have hl := hown.len
     rw [Af, Nat.zero_add]
     rw [← h9, List.getElem?_take] at hv
     rw [if_pos (by omega)] at hv
     simpa [World.cell?, h5] using hv
    have hrun := run_append_grow (P := Tryz.prog) w 32 ty 5 i0 (.int .u8 0) Tryz.underlying32 hi hz0 ⟨g0, 0, none⟩ n cap (cells l) (by rw [hz1]; exact hown.1) hcl ad n' cap' (cells r) (by rw [hz1, hnl]; omega) hnews (by omega) (by omega) (growslice_fits (by omega) (by rw [hz2]; omega))
    rw [h1] at hrun
    cases hrun
    exact .inr ⟨_, rfl, Nat.le_refl _⟩
theorem append_rowG {w : World} {ops : Array Oper} {rest : List Oper} {o : Oper} {ac : Act} {Q : Exit → Act → World → Prop} (hgd : o.guard = none) (s x : Operand) (ho : o.op = .call { callee := .builtin .append, args := #[s, x], argTypes := #[32, 32] })
  (B : Nat) {a : Option Addr} {n cap : Nat} {l : List UInt8} (hs : ac.eval s = .slice a n cap) (hown : Own w B a n cap l)
  {a' : Option Addr} {n' cap' : Nat} {r : List UInt8} (hx : ac.eval x = .slice a' n' cap') (hr : Rd w a' n' cap' r) (hb : n + n' ≤ 140737488355328) (hB : B ≤ w.heap.size)
  (h : ∀ a2 n2 c2 w2, n2 = n + n' → Hid (Own w2 B a2 n2 c2 (l ++ r)) → Hid (w.grownBy w2 (a.map (·.block))) → Hid (Went w a a2) → wpList Tryz.prog ops Q rest (ac.put o.dst (.slice a2 n2 c2)) w2) : wpList Tryz.prog ops Q (o :: rest) ac w := by
 obtain ⟨a2, c2, w2, h1, h2, h3, h4⟩ := run_append_b w B hown hr hb hB o.type
 exact Lib.wpList_append_run w hgd s x _ _ ho _ _ hs hx _ _ h1 (h _ _ _ _ rfl h2 h3 h4)
theorem zero_cells (k : Nat) : (Builtin.zeroCells (Value.int .u8 0).cells k).toList = List.replicate k (.int .u8 0) := by
 show (Builtin.zeroCells #[Value.int .u8 0] k).toList = _
 simp [Builtin.zeroCells]
 apply List.ext_getElem
 ·simp
 ·intro i h1 h2
  simp [Nat.mod_one]
theorem append_zeros {w : World} {ops : Array Oper} {rest : List Oper} {o : Oper} {ac : Act} {Q : Exit → Act → World → Prop} (hgd : o.guard = none) (s x : Operand) (ho : o.op = .call { callee := .builtin .append, args := #[s, x], argTypes := #[32, 3] })
  {g n c : Nat} {z : Int} (hs : ac.eval s = .slice (some ⟨g, 0, none⟩) n c) (hx : ac.eval x = .int .i64 z) (k : Nat) (hz : z = k) (hk : 0 < k) (cur : List Value) (hB : Bk w g cur) (hn : n ≤ cur.length) (hroom : c < n + k) (hb : n + k ≤ 140737488355328)
  (h : ∀ c2 w2, n + k ≤ c2 → c2 ≤ maxLen → Hid (Bk w2 w.heap.size (cur.take n ++ List.replicate (c2 - n) (.int .u8 0))) → Hid (w.grownBy w2 none) → wpList Tryz.prog ops Q rest (ac.put o.dst (.slice (some ⟨w.heap.size, 0, none⟩) (n + k) c2)) w2) : wpList Tryz.prog ops Q (o :: rest) ac w := by
 subst hz
 obtain ⟨i0, hi, hz0, hz1, hz2⟩ := info_parts Tryz.info5
 have hold : (Builtin.firstCells i0.size n (.slice (some ⟨g, 0, none⟩) n c)).run Tryz.prog w.drew = .ok (cur.take n).toArray w.drew := by
  rw [hz1]
  exact run_firstCells_some w.drew 1 n ⟨g, 0, none⟩ n c (cur.take n) (by rw [List.length_take]; omega) (fun j v hj => by
   rw [Af, hB.drew.cell, Nat.zero_add]
   rw [List.getElem?_take] at hj
   split at hj
   ·exact hj
   ·cases hj)
 have hrun := fun ty => Lib.run_append_grow_zeros (P := Tryz.prog) w 32 3 ty 5 i0 (.int .u8 0) .i64 .i64 Tryz.underlying32 Tryz.underlying3 hi hz0 (some ⟨g, 0, none⟩) n c (cur.take n) hold k hk (by omega) hroom (by omega) (by rw [hz2]; omega) (by rw [hz2]; exact growslice_fits hroom (by omega))
 have hge := grownCap_ge w (n + k) c 5
 have hle := grownCap_le_maxLen w (n + k) c 5 (by unfold maxLen; omega)
 generalize grownCap w (n + k) c 5 = G at hrun hge hle
 refine Lib.wpList_append_run w hgd s x 32 3 ho _ _ hs hx _ _ (hrun _) ?_
 refine h G _ hge hle ?_ (show w.grownBy _ none from ⟨rfl, rfl, rfl, by simp, fun j hj _ => heap_alloc_old w.drew _ hj⟩)
 show _ = _
 have := heap_alloc_new w.drew (.cells ((cur.take n).toArray ++ Builtin.zeroCells (Value.int .u8 0).cells k ++ Builtin.zeroCells (Value.int .u8 0).cells (G - (n + k))) 5)
 rw [show w.drew.heap.size = w.heap.size from rfl] at this
 rw [this]
 have e : (cur.take n).toArray ++ Builtin.zeroCells (Value.int .u8 0).cells k ++ Builtin.zeroCells (Value.int .u8 0).cells (G - (n + k)) = (cur.take n ++ List.replicate (G - n) (Value.int .u8 0)).toArray := by
  apply Array.toList_inj.1
  rw [Array.toList_append, Array.toList_append, zero_cells, zero_cells, List.append_assoc, List.replicate_append_replicate, show k + (G - (n + k)) = G - n by omega]
 rw [e]
end Go.Proofs.YtmjeljldmmkcpaaGreat
