/- Texts that the others stand on. -/
import Derived.Test.YtmjeljldmmkcpaaGreatK6
import Derived.Laws.CopyOwn
import Derived.Lib.Overlaps
import Derived.Lib.SliceRun
import Derived.Lib.AppendZerosOnto
import Derived.Deep.RegionLaw
set_option maxRecDepth 100000
set_option maxHeartbeats 4000000
namespace Go.Proofs.YtmjeljldmmkcpaaGreat.Dk
open Go.RowKit Go.PlainAid
theorem Tryz.size59 (w : World) : (sizeOf 125).run Tryz.prog w = .ok 1 w := by go_simp
theorem Tryz.elem176 : Tryz.prog.elem 176 = 125 := by simp [Program.elem, Tryz.underlying176]
def Bk (w : World) (g : Nat) (cur : List Value) : Prop := w.heap[g]? = some (.cells cur.toArray 125 (0, 0))
theorem Bk.cell {w : World} {g : Nat} {cur : List Value} (h : Bk w g cur) (j : Nat) : w.cell? ⟨g, j, none⟩ = cur[j]? := by
 have h' : w.heap[g]? = some (.cells cur.toArray 125 (0, 0)) := h
 simp [World.cell?, h']
theorem Bk.frozen {w : World} {g : Nat} {cur : List Value} (h : Bk w g cur) (j : Nat) : w.frozen? ⟨g, j, none⟩ = false := by
 have h' : w.heap[g]? = some (.cells cur.toArray 125 (0, 0)) := h
 simp [World.frozen?, h']
theorem Bk.drew {w : World} {g : Nat} {cur : List Value} (h : Bk w g cur) : Bk w.drew g cur := h
theorem Cq (w : World) (row : Option Nat) : w.grownBy w row := ⟨rfl, rfl, rfl, Nat.le_refl _, fun _ _ _ => rfl⟩
theorem As {w w1 w2 : World} {row : Option Nat} (h1 : w.grownBy w1 row) (h2 : w1.grownBy w2 row) : w.grownBy w2 row :=
 ⟨h2.os.trans h1.os, h2.tape.trans h1.tape, h2.output.trans h1.output, Nat.le_trans h1.size h2.size, fun k hk hr => (h2.block k (Nat.lt_of_lt_of_le hk h1.size) hr).trans (h1.block k hk hr)⟩
theorem Bn {w w1 : World} {row : Option Nat} (h : w.drew.grownBy w1 row) : w.grownBy w1 row := ⟨h.os, h.tape, h.output, h.size, h.block⟩
theorem Cy (w : World) (g o : Nat) (v : Value) : w.grownBy (w.setCell ⟨g, o, none⟩ v) (some g) :=
 ⟨rfl, rfl, rfl, by simp [World.setCell], fun k _ hr => Deep.blk_setCell_other w _ v k (fun e => hr (by rw [e]))⟩
theorem OwnP.parts {w : World} {B : Nat} {a : Option Addr} {n c : Nat} {l : List Nat} (h : OwnP w B 125 a n c l) (h0 : 0 < n) :
  ∃ g cur, a = some ⟨g, 0, none⟩ ∧ B ≤ g ∧ Bk w g cur ∧ n ≤ c ∧ c ≤ maxLen ∧ cur.length = c ∧ cur.take n = Am l := by
 rcases h.2 with ⟨h2, h3⟩ | ⟨g, c', cur, h1, h3, h4, h5, h6, h7, h8⟩
 ·omega
 ·cases h1
  refine ⟨g, cur.toList, rfl, h3, by show _ = _; simpa using h4, h5, h6, by simpa using h7, ?_⟩
  simpa using h8
theorem OwnP.of {w : World} {B g n c : Nat} {cur : List Value} {l : List Nat} (hB : B ≤ g) (hk : Bk w g cur) (hn : n ≤ c) (hc : c ≤ maxLen) (hl : cur.length = c) (ht : cur.take n = Am l) : OwnP w B 125 (some ⟨g, 0, none⟩) n c l := by
 have hlen : l.length = n := by
  have := congrArg List.length ht
  simp [Am] at this
  omega
 refine ⟨by simp [Am, hlen], .inr ⟨g, c, cur.toArray, rfl, hB, hk, hn, hc, by simp [hl], by simpa using ht⟩⟩
theorem slice_at (g n c lo hi : Nat) (h1 : lo ≤ hi) (h2 : hi ≤ c) :
  ∃ o, (lo < c → o = lo) ∧ ∀ wx, (Instr.sliceAt 176 (.slice (some ⟨g, 0, none⟩) n c) (some (.int .i64 lo)) (some (.int .i64 hi)) none).run Tryz.prog wx = .ok (.slice (some ⟨g, o, none⟩) (hi - lo) (c - lo)) wx := by
 have ht : Tryz.prog.underlying 176 = some (.slice (Tryz.prog.elem 176)) := by rw [Tryz.elem176]; exact Tryz.underlying176
 refine ⟨if c = lo then 0 else lo, fun h => by rw [if_neg (by omega)], fun wx => ?_⟩
 rw [run_sliceAt_slice _ _ _ _ _ _ ht, run_slice_lh (P := Tryz.prog) wx 176 _ n c ht .i64 .i64 lo hi (by omega) (by omega) (by omega), Tryz.elem176, Tryz.size59]
 simp only [Result.andThen, sliced, Int.toNat_natCast]
 split <;> simp [*, Af]
theorem Az (g n c lo : Nat) (h1 : lo ≤ n) :
  ∃ o, (lo < c → o = lo) ∧ ∀ wx, (Instr.sliceAt 176 (.slice (some ⟨g, 0, none⟩) n c) (some (.int .i64 lo)) none none).run Tryz.prog wx = .ok (.slice (some ⟨g, o, none⟩) (n - lo) (c - lo)) wx := by
 have ht : Tryz.prog.underlying 176 = some (.slice (Tryz.prog.elem 176)) := by rw [Tryz.elem176]; exact Tryz.underlying176
 refine ⟨if c = lo then 0 else lo, fun h => by rw [if_neg (by omega)], fun wx => ?_⟩
 rw [run_sliceAt_slice _ _ _ _ _ _ ht, run_slice_l (P := Tryz.prog) wx 176 _ n c ht .i64 lo (by omega) (by omega), Tryz.elem176, Tryz.size59]
 simp only [Result.andThen, sliced, Int.toNat_natCast]
 split <;> simp [*, Af]
theorem Bq (g n c hi : Nat) (h1 : hi ≤ c) :
  ∀ wx, (Instr.sliceAt 176 (.slice (some ⟨g, 0, none⟩) n c) none (some (.int .i64 hi)) none).run Tryz.prog wx = .ok (.slice (some ⟨g, 0, none⟩) hi c) wx := by
 have ht : Tryz.prog.underlying 176 = some (.slice (Tryz.prog.elem 176)) := by rw [Tryz.elem176]; exact Tryz.underlying176
 intro wx
 rw [run_sliceAt_slice _ _ _ _ _ _ ht, run_slice_h (P := Tryz.prog) wx 176 _ n c ht .i64 hi (by omega) (by omega), Tryz.elem176, Tryz.size59]
 simp [Result.andThen, sliced, Af]
theorem cur_set {w : World} {g : Nat} {cur : List Value} (h : Bk w g cur) (o : Nat) (v : Value) : Bk (w.setCell ⟨g, o, none⟩ v) g (cur.set o v) := by
 have h' : w.heap[g]? = some (.cells cur.toArray 125 (0, 0)) := h
 have hlt : g < w.heap.size := (Array.getElem?_eq_some_iff.1 h').1
 have hv : w.heap[g] = .cells cur.toArray 125 (0, 0) := (Array.getElem?_eq_some_iff.1 h').2
 show (w.setCell ⟨g, o, none⟩ v).heap[g]? = _
 simp [World.setCell, Array.getElem?_modify, h']
theorem splice_set (cur : List Value) (o : Nat) (v : Value) (vs : List Value) (h : o + (vs.length + 1) ≤ cur.length) : splice (cur.set o v) (o + 1) vs = splice cur o (v :: vs) := by
 unfold splice
 rw [List.length_cons, List.take_set, List.drop_set_of_lt (by omega), show o + 1 + vs.length = o + (vs.length + 1) by omega]
 have : (cur.take (o + 1)).set o v = cur.take o ++ [v] := by
  rw [List.take_add_one, List.getElem?_eq_getElem (by omega), Option.toList_some, List.set_append_right _ _ (by rw [List.length_take]; omega)]
  rw [List.length_take, Nat.min_eq_left (by omega), Nat.sub_self]; rfl
 rw [this, List.append_assoc]; rfl
theorem bk_cells {g : Nat} : ∀ (vs : List Value) (o : Nat) (w : World) (cur : List Value), Bk w g cur → o + vs.length ≤ cur.length → Bk (w.setCells g o vs) g (splice cur o vs) ∧ w.grownBy (w.setCells g o vs) (some g)
 | [], o, w, cur, h, hl => ⟨by simpa [splice, World.setCells] using h, Cq _ _⟩
 | v :: vs, o, w, cur, h, hl => by
  have h1 := bk_cells vs (o + 1) (w.setCell ⟨g, o, none⟩ v) (cur.set o v) (cur_set h o v) (by simp at hl ⊢; omega)
  rw [splice_set cur o v vs (by simpa using hl)] at h1
  exact ⟨h1.1, As (Cy w g o v) h1.2⟩
theorem clear_in {w : World} {ops : Array Oper} {rest : List Oper} {o : Oper} {ac : Act} {Q : Exit → Act → World → Prop} (hgd : o.guard = none) (d : Operand) (ho : o.op = .call { callee := .builtin .clear, args := #[d], argTypes := #[176] })
  {g off dLen dCap : Nat} (hd : ac.eval d = .slice (some ⟨g, off, none⟩) dLen dCap) (cur : List Value) (hB : Bk w g cur) (hfit : off + dLen ≤ cur.length)
  (h : ∀ w', Hid (Bk w' g (splice cur off (List.replicate dLen (.pointer none)))) → Hid (w.grownBy w' (some g)) → wpList Tryz.prog ops Q rest (ac.put o.dst (.tuple #[])) w') : wpList Tryz.prog ops Q (o :: rest) ac w := by
 by_cases h0 : dLen = 0
 ·subst h0
  have hr : ∀ ty, (Builtin.clear_ #[176] ty #[.slice (some ⟨g, off, none⟩) 0 dCap]).run Tryz.prog w = .ok (.tuple #[]) w := by
   intro ty
   simp [Builtin.clear_, run_underlying Tryz.underlying176]
  refine wpList_plain hgd fun K hK => ?_
  unfold Oper.wp
  simp [execOp, ho, resolve, invoke, builtin, hd, hr, Result.andThen]
  exact hK _ _ (h w (by show Bk _ _ _; simpa [splice] using hB) (Cq _ _))
 ·have hz : ∀ w, (zeroValue 125).run Tryz.prog w = .ok (.pointer none) w := fun w => by go_simp
  have hr := fun ty => Lib.run_clear_slice (P := Tryz.prog) w 176 125 ty (.pointer none) Tryz.underlying176 hz rfl rfl g off dLen dCap (by omega)
   (fun j hj => by rw [hB.cell, List.getElem?_eq_getElem (by omega)]; rfl) (fun j hj => hB.frozen _)
  have hb := bk_cells (List.replicate dLen (.pointer none)) off w cur hB (by simpa using hfit)
  refine wpList_plain hgd fun K hK => ?_
  unfold Oper.wp
  simp [execOp, ho, resolve, invoke, builtin, hd, hr, Result.andThen]
  exact hK _ _ (h _ hb.1 hb.2)
theorem pcells_len (l : List Nat) : (Am l).length = l.length := List.length_map ..
theorem pcells_take (l : List Nat) (n : Nat) : (Am l).take n = Am (l.take n) := (List.map_take ..).symm
theorem pcells_drop (l : List Nat) (n : Nat) : (Am l).drop n = Am (l.drop n) := (List.map_drop ..).symm
theorem of_take {cur L : List Value} {n : Nat} (h : cur.take n = L) (j : Nat) (hj : j < n) : cur[j]? = L[j]? := by rw [← h, List.getElem?_take, if_pos hj]
theorem cell_of {w : World} {g : Nat} {cur : List Value} {l : List Nat} {n : Nat} (hB : Bk w g cur) (ht : cur.take n = Am l) (i : Nat) (hl : l.length ≤ n) : ∀ j v, (Am (l.drop i))[j]? = some v → w.cell? ((⟨g, i, none⟩ : Addr).add j) = some v := by
 intro j v hv
 rw [Af, hB.cell]
 have hj : i + j < l.length := by
  rw [← pcells_drop, List.getElem?_drop] at hv
  have := (List.getElem?_eq_some_iff.1 hv).1
  rwa [pcells_len] at this
 rw [of_take ht _ (by omega)]
 rw [← pcells_drop, List.getElem?_drop] at hv
 exact hv
theorem run_append_in (w : World) (g n c : Nat) (cur : List Value) (hB : Bk w g cur) (hc : cur.length = c) (ad : Addr) (m xc : Nat) (cs : List Value) (hm : cs.length = m) (hsrc : ∀ j v, cs[j]? = some v → w.cell? (ad.add j) = some v) (h1 : ∀ v ∈ cs, v.oneCell' = true) (hroom : n + m ≤ c) :
  ∃ w', (∀ ty, (Builtin.append_ #[176, 176] ty #[.slice (some ⟨g, 0, none⟩) n c, .slice (some ad) m xc]).run Tryz.prog w = .ok (.slice (some ⟨g, 0, none⟩) (n + m) c) w') ∧ Bk w' g (splice cur n cs) ∧ w.grownBy w' (some g) := by
 obtain ⟨i0, hi, hz0, hz1, hz2⟩ := info_parts Tryz.infoT
 have hb := bk_cells cs n w cur hB (by omega)
 refine ⟨_, fun ty => ?_, hb.1, hb.2⟩
 have hrun := run_append_room_cells (P := Tryz.prog) w 176 ty 125 i0 Tryz.underlying176 hi g 0 n c ad m xc cs (by rw [hz1]; omega) hsrc h1 hroom
  (fun j hj => by rw [hB.cell, hz1, List.getElem?_eq_getElem (by omega)]; rfl) (fun j hj => hB.frozen _)
 rw [hrun, hz1, Nat.zero_add, Nat.mul_one]
theorem step_append_in {w : World} {ops : Array Oper} {o : Oper} {ac : Act} {K : Act → World → Prop} {Q : Exit → Act → World → Prop} {E : Prop} (hgd : o.guard = none) (s x : Operand) (ho : o.op = .call { callee := .builtin .append, args := #[s, x], argTypes := #[176, 176] })
  {g n c : Nat} {ad : Addr} {m xc : Nat} (hs : ac.eval s = .slice (some ⟨g, 0, none⟩) n c) (hx : ac.eval x = .slice (some ad) m xc) (cur : List Value) (hB : Bk w g cur) (hc : cur.length = c) (cs : List Value) (hm : cs.length = m)
  (hsrc : ∀ j v, cs[j]? = some v → w.cell? (ad.add j) = some v) (h1 : ∀ v ∈ cs, v.oneCell' = true) (hroom : n + m ≤ c)
  (h : ∀ w', Hid (Bk w' g (splice cur n cs)) → Hid (w.grownBy w' (some g)) → K (ac.put o.dst (.slice (some ⟨g, 0, none⟩) (n + m) c)) w') : if Region.wanted o (yielded ops ac.tmps) = true then Oper.wp Tryz.prog o ac w K Q else E := by
 have hw : Region.wanted o (yielded ops ac.tmps) = true := by simp [Region.wanted, hgd]
 rw [if_pos hw]
 obtain ⟨w', hr, h2, h3⟩ := run_append_in w g n c cur hB hc ad m xc cs hm hsrc h1 hroom
 unfold Oper.wp
 simp [execOp, ho, resolve, invoke, builtin, hs, hx, hr, Result.andThen]
 exact h w' h2 h3
theorem Ce (cur cs : List Value) (i : Nat) (h : i + cs.length ≤ cur.length) : (splice cur i cs).take (i + cs.length) = cur.take i ++ cs := by
 unfold splice
 rw [← List.append_assoc, List.take_append_of_le_length (by rw [List.length_append, List.length_take]; omega), List.take_of_length_le (by rw [List.length_append, List.length_take]; omega)]
theorem Bi (cur cs : List Value) (i k : Nat) (h : k ≤ i) (hi : i ≤ cur.length) : (splice cur i cs).take k = cur.take k := by
 unfold splice
 rw [List.take_append_of_le_length (by rw [List.length_take]; omega), List.take_take, Nat.min_eq_left h]
theorem slice_lhm (a : Option Addr) (n c lo hi mx : Nat) (h1 : lo ≤ hi) (h2 : hi ≤ mx) (h3 : mx ≤ c) :
  ∃ a', ∀ wx, (Instr.sliceAt 176 (.slice a n c) (some (.int .i64 lo)) (some (.int .i64 hi)) (some (.int .i64 mx))).run Tryz.prog wx = .ok (.slice a' (hi - lo) (mx - lo)) wx := by
 have ht : Tryz.prog.underlying 176 = some (.slice (Tryz.prog.elem 176)) := by rw [Tryz.elem176]; exact Tryz.underlying176
 refine ⟨if mx = lo then a else a.map (·.add (lo * 1)), fun wx => ?_⟩
 rw [run_sliceAt_slice _ _ _ _ _ _ ht, run_slice_lhm (P := Tryz.prog) wx 176 _ n c ht .i64 .i64 .i64 lo hi mx (by omega) (by omega) (by omega) (by omega), Tryz.elem176, Tryz.size59]
 simp only [Result.andThen, sliced, Int.toNat_natCast]
theorem delete_some (B : Nat) (g n c : Nat) (l : List Nat) (i j : Nat) (w : World) (cur : List Value) (hBg : B ≤ g) (hg : Bk w g cur) (hn : n ≤ c) (hcm : c ≤ maxLen) (hcl : cur.length = c) (ht : cur.take n = Am l)
  (hl : l.length = n) (hi : i < j) (hj : j ≤ n) :
  Calls Tryz.prog 189 #[.slice (some ⟨g, 0, none⟩) n c, .int .i64 i, .int .i64 j] w fun e w' => ∃ n' c', e = .returned (.slice (some ⟨g, 0, none⟩) n' c') ∧ OwnP w' B 125 (some ⟨g, 0, none⟩) n' c' (l.take i ++ l.drop j) ∧ w.grownBy w' (some g) := by
 unfold maxLen at hcm
 obtain ⟨a3, s1⟩ := slice_lhm (some ⟨g, 0, none⟩) n c i j n (by omega) hj hn
 have s2 := Bq g n c i (by omega)
 obtain ⟨o3, ho3, s3⟩ := Az g n c j (by omega)
 obtain ⟨k, hK⟩ : ∃ k, i + (n - j) = k := ⟨_, rfl⟩
 obtain ⟨o4, ho4, s4⟩ := slice_at g k c k n (by omega) (by omega)
 have hO4 : o4 = k := ho4 (by omega)
 subst hO4
 obtain ⟨X, hX⟩ : ∃ X, X = Am (l.drop j) := ⟨_, rfl⟩
 have hXl : X.length = n - j := by rw [hX, pcells_len, List.length_drop]; omega
 have HXl : Hid (X.length = n - j) := hXl
 have HG : Hid (Bk w.drew g cur) := hg.drew
 have HC : Hid (cur.length = c) := hcl
 have HX2 : Hid (∀ q v, X[q]? = some v → w.drew.cell? ((⟨g, o3, none⟩ : Addr).add q) = some v) := by
  show ∀ _, _
  intro q v hv
  have hq := (List.getElem?_eq_some_iff.1 hv).1
  rw [ho3 (by omega)]
  rw [hX] at hv
  exact cell_of hg.drew ht j (by omega) q v hv
 have HX4 : Hid (∀ v ∈ X, v.oneCell' = true) := by show ∀ _, _; rw [hX]; exact pcells_one
 have HR : Hid (i + (n - j) ≤ c) := by show _ ≤ _; omega
 have HK : Hid (i + (n - j) = o4) := hK
 have HL : Hid ((splice cur i X).take o4 = Am (l.take i ++ l.drop j)) := by
  show _ = _
  have := Ce cur X i (by omega)
  rw [show i + X.length = o4 by omega] at this
  rw [this, pcells_append, hX, ← pcells_take, ← ht, List.take_take, Nat.min_eq_left (by omega)]
 have HF : Hid (o4 + (n - o4) ≤ (splice cur i X).length) := by show _ ≤ _; rw [length_splice _ _ _ (by omega)]; omega
 have HF2 : Hid ((splice cur i X).length = c) := by show _ = _; rw [length_splice _ _ _ (by omega)]; omega
 have HBg : Hid (B ≤ g) := hBg
 have hz2 : ¬ ((i : Int) = (j : Int)) := by omega
 have hok : o4 ≤ c := by omega
 have hon : o4 ≤ n := by omega
 clear hX hXl ht hcl hg ho3 ho4 hBg hK
 go_enter Tryz.func189, Tryz.ntmps189
 go_wp2_with fail
 go_region_law (refine step_append_in rfl (.tmp 22) (.tmp 25) rfl (by simp [Act.eval, Act.put] <;> rfl) (by simp [Act.eval, Act.put] <;> rfl) cur HG.out HC.out X HXl.out HX2.out HX4.out HR.out ?_; intro w1 HB1 HG1; rw [HK.out])
 go_wp2_with (refine clear_in rfl (.tmp 31) rfl rfl _ HB1.out HF.out ?_; intro w2 HB2 HG2)
 go_ret
 refine ⟨_, _, rfl, OwnP.of HBg.out HB2.out hok hcm ?_ ?_, As (Bn HG1.out) HG2.out⟩
 ·exact (length_splice _ _ _ (by rw [List.length_replicate]; exact HF.out)).trans HF2.out
 ·exact (Bi _ _ _ _ (Nat.le_refl _) (Nat.le_trans hok (Nat.le_of_eq HF2.out.symm))).trans HL.out
theorem Delete_row (B g n c : Nat) (l : List Nat) (i : Nat) (w : World) (hO : OwnP w B 125 (some ⟨g, 0, none⟩) n c l) (hi : i < n) :
  Calls Tryz.prog 189 #[.slice (some ⟨g, 0, none⟩) n c, .int .i64 i, .int .i64 ((i : Int) + 1)] w fun e w' => ∃ n' c', e = .returned (.slice (some ⟨g, 0, none⟩) n' c') ∧ OwnP w' B 125 (some ⟨g, 0, none⟩) n' c' (l.take i ++ l.drop (i + 1)) ∧ w.grownBy w' (some g) := by
 obtain ⟨g', cur, ha, h1, h2, h3, h4, h5, h6⟩ := OwnP.parts hO (by omega)
 cases ha
 exact delete_some B g n c l i (i + 1) w cur h1 h2 h3 h4 h5 h6 (OwnP.len hO) (by omega) hi
theorem nodup_replace {xs ys : List Nat} {b b' : Nat} (h : (xs ++ b :: ys).Nodup) (h1 : b' ∉ xs) (h2 : b' ∉ ys) : (xs ++ b' :: ys).Nodup := by
 rw [List.nodup_append, List.nodup_cons] at h ⊢
 obtain ⟨k1, ⟨k2, k3⟩, k4⟩ := h
 refine ⟨k1, ⟨h2, k3⟩, fun a ha c hc => ?_⟩
 rcases List.mem_cons.1 hc with rfl | hc
 ·rintro rfl; exact h1 ha
 ·exact k4 a ha c (List.mem_cons_of_mem _ hc)
theorem fp_parts {f : Lf} {pre post : List Tb} {t : Tb} (e : f.ts = pre ++ t :: post) : f.fp = (f.a :: f.tb :: tsFp pre ++ [t.p]) ++ t.b :: tsFp post := by
 unfold Lf.fp
 rw [e, Ci, tsFp_cons]
 simp
theorem fp_apart {f : Lf} {pre post : List Tb} {t : Tb} (hn : f.fp.Nodup) (e : f.ts = pre ++ t :: post) : f.a ∉ [t.p, t.b] ∧ f.tb ∉ [t.p, t.b] ∧ (∀ u ∈ pre, u.p ∉ [t.p, t.b] ∧ u.b ∉ [t.p, t.b]) ∧ (∀ u ∈ post, u.p ∉ [t.p, t.b] ∧ u.b ∉ [t.p, t.b]) := by
 unfold Lf.fp at hn
 rw [e, Ci, tsFp_cons, List.nodup_cons, List.nodup_cons, List.nodup_append, List.nodup_cons, List.nodup_cons] at hn
 obtain ⟨h1, h2, h3, ⟨h4, h5, h6⟩, h7⟩ := hn
 simp only [List.mem_cons, List.mem_append, not_or] at h1 h2 h4
 refine ⟨?_, ?_, ?_, ?_⟩
 ·simp only [List.mem_cons, List.not_mem_nil, or_false, not_or]; exact ⟨h1.2.2.1, h1.2.2.2.1⟩
 ·simp only [List.mem_cons, List.not_mem_nil, or_false, not_or]; exact ⟨h2.2.1, h2.2.2.1⟩
 ·intro u hu
  have hm := mem_tsFp hu
  simp only [List.mem_cons, List.not_mem_nil, or_false, not_or]
  exact ⟨⟨h7 _ hm.1 _ (by simp), h7 _ hm.1 _ (by simp)⟩, h7 _ hm.2 _ (by simp), h7 _ hm.2 _ (by simp)⟩
 ·intro u hu
  have hm := mem_tsFp hu
  simp only [List.mem_cons, List.not_mem_nil, or_false, not_or]
  exact ⟨⟨fun e => h4.2 (e ▸ hm.1), fun e => h5 (e ▸ hm.1)⟩, fun e => h4.2 (e ▸ hm.2), fun e => h5 (e ▸ hm.2)⟩
theorem Leaf.turn {w w' : World} {B x : Nat} {f : Lf} {pre post : List Tb} {t : Tb} {b' G' : Nat} {z' : List Cl} (h : Leaf w B x f) (e : f.ts = pre ++ t :: post) (hs : Stay w w' [t.p, t.b]) (hT : Tab w' B t.p b' x G' z') (hb : b' = t.b ∨ w.heap.size ≤ b')
  (hk : (Ae (tsEs (pre ++ ⟨t.p, b', G', z'⟩ :: post))).Nodup) :
  Leaf w' B x { f with ts := pre ++ ⟨t.p, b', G', z'⟩ :: post } ∧ (∀ j ∈ ({ f with ts := pre ++ ⟨t.p, b', G', z'⟩ :: post } : Lf).fp, j ∈ f.fp ∨ w.heap.size ≤ j) ∧ Stay w w' f.fp := by
 obtain ⟨h1, h2, h3, h4⟩ := fp_apart h.nod e
 have hlen : (pre ++ (⟨t.p, b', G', z'⟩ : Tb) :: post).length = f.ts.length := by rw [e]; simp
 have hps : (pre ++ (⟨t.p, b', G', z'⟩ : Tb) :: post).map (·.p) = f.ts.map (·.p) := by rw [e]; simp
 have hfp : ({ f with ts := pre ++ ⟨t.p, b', G', z'⟩ :: post } : Lf).fp = (f.a :: f.tb :: tsFp pre ++ [t.p]) ++ b' :: tsFp post := fp_parts (f := { f with ts := pre ++ ⟨t.p, b', G', z'⟩ :: post }) rfl
 have hfp0 := fp_parts e
 have hlt := h.fplt
 refine ⟨⟨?_, ?_, ?_, h.low, ?_, hk, ?_⟩, ?_, hs.mono ?_⟩
 ·show w'.heap[f.a]? = some (.cells #[.int .i64 (f.l : Nat), .slice (some ⟨f.tb, 0, none⟩) (pre ++ (⟨t.p, b', G', z'⟩ : Tb) :: post).length f.cap] 178 (0, 0))
  rw [hlen, hs.block f.a h.lt h1]
  exact h.blk
 ·show OwnP w' B 125 (some ⟨f.tb, 0, none⟩) (pre ++ (⟨t.p, b', G', z'⟩ : Tb) :: post).length f.cap ((pre ++ (⟨t.p, b', G', z'⟩ : Tb) :: post).map (·.p))
  rw [hlen, hps]
  exact OwnR.stay h.row hs (fun k hk => by cases hk; exact h2)
 ·intro u hu
  rcases List.mem_append.1 hu with hu | hu
  ·exact (h.tab u (by rw [e]; simp [hu])).stay hs (h3 u hu).1 (h3 u hu).2
  ·rcases List.mem_cons.1 hu with rfl | hu
   ·exact hT
   ·exact (h.tab u (by rw [e]; simp [hu])).stay hs (h4 u hu).1 (h4 u hu).2
 ·rw [hfp]
  have hn := h.nod
  rw [hfp0] at hn hlt
  rcases hb with rfl | hb
  ·exact hn
  ·exact nodup_replace hn (fun hm => by have := hlt b' (List.mem_append.2 (.inl hm)); omega) (fun hm => by have := hlt b' (List.mem_append.2 (.inr (List.mem_cons_of_mem _ hm))); omega)
 ·show 0 < (pre ++ (⟨t.p, b', G', z'⟩ : Tb) :: post).length
  rw [hlen]; exact h.pos
 ·intro j hj
  rw [hfp] at hj
  rw [hfp0]
  rcases List.mem_append.1 hj with hj | hj
  ·exact .inl (List.mem_append.2 (.inl hj))
  ·rcases List.mem_cons.1 hj with rfl | hj
   ·rcases hb with rfl | hb
    ·exact .inl (by simp)
    ·exact .inr hb
   ·exact .inl (List.mem_append.2 (.inr (List.mem_cons_of_mem _ hj)))
 ·intro j hj
  rw [hfp0]
  simp only [List.mem_cons, List.not_mem_nil, or_false] at hj
  rcases hj with rfl | rfl <;> simp
def Ful (f : Lf) : Prop := f.ts.length = 1 ∨ ∀ t ∈ f.ts, 0 < t.es.length
theorem Ful.le {f : Lf} (h : Ful f) : f.ts.length ≤ f.es.length + 1 := by
 rcases h with h | h
 ·omega
 ·unfold Lf.es
  generalize f.ts = ts at h
  have : ts.length ≤ (tsEs ts).length := by
   induction ts with
   | nil => exact Nat.zero_le _
   | cons t ts ih =>
    have h1 := h t (by simp)
    have h2 := ih (fun u hu => h u (List.mem_cons_of_mem _ hu))
    rw [Bh, List.length_append, List.length_cons]
    omega
  omega
structure Grew (w w' : World) (B x : Nat) (f f' : Lf) : Prop where
 leaf : Leaf w' B x f'
 stay : Stay w w' f.fp
 fps : ∀ j ∈ f'.fp, j ∈ f.fp ∨ w.heap.size ≤ j
 l : f'.l = f.l
 q : f'.q = f.q
 a : f'.a = f.a
theorem Grew.first {w w0 w' : World} {B x : Nat} {f f' : Lf} (h : Grew w w' B x f f') (hb : Below w0.heap.size w0 w) : Grew w0 w' B x f f' :=
 ⟨h.leaf, (Stay.of_below hb f.fp).trans h.stay (fun _ hi => .inl hi), fun j hj => (h.fps j hj).imp id (fun k => Nat.le_trans hb.size k), h.l, h.q, h.a⟩
theorem keys_nodup_add {es es' : List En} {k : BA} {v : (Option Addr)} (hn : (Ae es).Nodup) (hk : k ∉ Ae es) (hp : es'.Perm (es ++ [(k, v)])) : (Ae es').Nodup := by
 have h1 := (hp.map (·.1)).nodup_iff
 refine h1.2 ?_
 rw [List.map_append, List.nodup_append]
 refine ⟨hn, by simp, fun a ha b hb => ?_⟩
 simp at hb
 subst hb
 rintro rfl
 exact hk ha
theorem mid_perm {pre post : List Tb} {t t' : Tb} {e : List En} (hp : t'.es.Perm (t.es ++ e)) : (tsEs (pre ++ t' :: post)).Perm (tsEs (pre ++ t :: post) ++ e) := by
 rw [An, An, Bh, Bh, List.append_assoc]
 refine List.Perm.append_left _ ?_
 refine (hp.append_right _).trans ?_
 rw [List.append_assoc, List.append_assoc]
 exact List.Perm.append_left _ List.perm_append_comm
theorem not_in_tab {f : Lf} {t : Tb} {k : BA} (hk : k ∉ Ae f.es) (ht : t ∈ f.ts) : k ∉ (ents t.z).map (·.1) := fun h => hk (by
 obtain ⟨e, he, h1⟩ := List.mem_map.1 h
 exact List.mem_map.2 ⟨e, List.mem_flatMap.2 ⟨t, ht, he⟩, h1⟩)
theorem get_parts {α : Type} {l : List α} {i : Nat} {t : α} (h : l[i]? = some t) : l = l.take i ++ t :: l.drop (i + 1) := by
 obtain ⟨h1, h2⟩ := List.getElem?_eq_some_iff.1 h
 conv => lhs; rw [← List.take_append_drop i l, List.drop_eq_getElem_cons h1, h2]
def Added (w w' : World) (B x : Nat) (f : Lf) (k : BA) (v : (Option Addr)) : Prop :=
 ∃ f', Grew w w' B x f f' ∧ f'.es.Perm (f.es ++ [(k, v)]) ∧ (f.ts.length = 1 → f.es.length < 112 → f'.ts.length = 1) ∧ (Ful f → Ful f')
theorem es_le {ts : List Tb} {t : Tb} (h : t ∈ ts) : t.es.length ≤ (tsEs ts).length := by
 obtain ⟨a, c, rfl⟩ := List.append_of_mem h
 unfold tsEs
 rw [List.flatMap_append, List.flatMap_cons, List.length_append, List.length_append]
 omega
theorem add_leaf (B x : Nat) (f : Lf) (k : BA) (v : (Option Addr)) (w : World) (hL : Leaf w B x f) (hx : x < 18446744073709551616) (hks : k.size ≤ maxLen) (hk : k ∉ Ae f.es) (_ : f.ts.length ≤ 10000000) (hB : B ≤ w.heap.size) (hfw : f.es.length < 112) :
  Calls Tryz.prog 126 #[ptr f.a, .int .u64 x, .string k, .pointer v] w fun e w' => e = .returned (.tuple #[]) ∧ Added w w' B x f k v := by
 have HL : Hid (Leaf w B x f) := hL
 have HFw : Hid (f.es.length < 112) := hfw
 have hc := hL.tabs
 have HK : Hid (k ∉ Ae f.es) := hk
 have HKS : Hid (k.size ≤ maxLen) := hks
 have HX : Hid (x < 18446744073709551616) := hx
 have HBs : Hid (B ≤ w.heap.size) := hB
 generalize hm : f.ts.length = m at hc
 have HM : Hid (f.ts.length = m) := hm
 clear hL hm hk hks hx hB
 go_enter Tryz.func126, Tryz.ntmps126
 go_wp2
 go_loopg [9, 16] m (fun q tv iv wr => ∃ i : Nat, i + q = m ∧ iv = .int .i64 i ∧ Hid (∀ t ∈ f.ts.take i, 112 ≤ t.es.length) ∧ Hid (Below w.heap.size w wr))
 case atStart => exact ⟨0, by omega, rfl, (by simp : ∀ t ∈ f.ts.take 0, 112 ≤ t.es.length), Below.refl _ _⟩
 case round =>
  obtain ⟨i, hi, rfl, HFu, HB⟩ := hrel
  by_cases h8 : (i : Int) < m
  ·obtain ⟨t, ht, htm⟩ := A6 (l := f.ts) (i := i) (by have := HM.out; omega)
   have hcc := (HL.out.keep HB.out).at ht
   have HTab : Hid (Tab wr B t.p t.b x t.G t.z) := (HL.out.keep HB.out).tab t htm
   have HIn := not_in_tab HK.out htm
   by_cases hfull : 112 ≤ (ents t.z).length
   ·exfalso
    have h9 : t.es.length ≤ f.es.length := es_le htm
    have h8 := HFw.out
    have h7 : 112 ≤ t.es.length := hfull
    omega
   ·have hP := Put_new _ _ _ _ _ _ k v _ HTab.out HKS.out HIn (by omega)
    have HG : Hid (f.ts = f.ts.take i ++ t :: f.ts.drop (i + 1)) := get_parts ht
    clear ht htm HIn hfull
    go_wp2_with fail
    refine hP.mono ?_
    rintro e w1 ⟨rfl, hm1, b1, G1, z1, hT1, hb1, hp1⟩
    have HR : Hid (Added w w1 B x f k v) := by
     have hpm : (tsEs (f.ts.take i ++ ⟨t.p, b1, G1, z1⟩ :: f.ts.drop (i + 1))).Perm (f.es ++ [(k, v)]) := by
      have := mid_perm (pre := f.ts.take i) (post := f.ts.drop (i + 1)) (t := t) (t' := ⟨t.p, b1, G1, z1⟩) hp1
      rw [← HG.out] at this
      exact this
     obtain ⟨k1, k2, k3⟩ := (HL.out.keep HB.out).turn HG.out (Stay.of_moves hm1) hT1 hb1 (keys_nodup_add HL.out.key HK.out hpm)
     exact ⟨_, (⟨k1, k3, k2, rfl, rfl, rfl⟩ : Grew wr w1 B x f _).first HB.out, hpm, fun h _ => by
      have := congrArg List.length HG.out
      rw [h] at this
      simp at this ⊢
      omega, fun h => .inr fun u hu => by
       rcases List.mem_append.1 hu with hu | hu
       ·have := HFu.out u hu; omega
       ·rcases List.mem_cons.1 hu with rfl | hu
        ·have := hp1.length_eq
         rw [List.length_append] at this
         show 0 < (ents z1).length
         simp at this
         omega
        ·rcases h with h | h
         ·have h9 := congrArg List.length HG.out
          rw [h] at h9
          have h10 : 0 < (f.ts.drop (i + 1)).length := List.length_pos_of_mem hu
          simp at h9 h10
          omega
         ·exact h u (by rw [HG.out]; simp [hu])⟩
    clear hm1 hT1 hb1 hp1 hP
    go_wp2
    refine bodyPost_ret (results_none rfl _ _ _) rfl ?_
    exact ⟨rfl, HR.out⟩
  ·exfalso
   have hp := HL.out.pos
   have hm := HM.out
   have hf := HFu.out
   rw [List.take_of_length_le (by omega)] at hf
   obtain ⟨t, ht⟩ := List.exists_mem_of_length_pos hp
   have h7 := hf t ht
   have h9 : t.es.length ≤ f.es.length := es_le ht
   have h8 := HFw.out
   omega
end Go.Proofs.YtmjeljldmmkcpaaGreat.Dk
