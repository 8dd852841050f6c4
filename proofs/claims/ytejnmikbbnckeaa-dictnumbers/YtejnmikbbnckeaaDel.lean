/-
  slices.Delete at a row of pointers.
-/
import Derived.Test.YtejnmikbbnckeaaLf2
import Derived.Laws.CopyOwn
import Derived.Lib.Overlaps
import Derived.Lib.SliceRun
import Derived.Lib.AppendZerosOnto
import Derived.Deep.RegionLaw
namespace Go.Proofs.Ytejnmikbbnckeaa
open Go.RowKit Go.PlainAid

theorem Try.size59 (w : World) : (sizeOf 59).run Try.prog w = .ok 1 w := by go_simp
theorem Try.elem82 : Try.prog.elem 82 = 59 := by simp [Program.elem, Try.underlying82]
/-- Block g has these cells. -/
def Bk (w : World) (g : Nat) (cur : List Value) : Prop := w.heap[g]? = some (.cells cur.toArray 59 (0, 0))
theorem Bk.lt {w : World} {g : Nat} {cur : List Value} (h : Bk w g cur) : g < w.heap.size := (Array.getElem?_eq_some_iff.1 h).1
theorem Bk.cell {w : World} {g : Nat} {cur : List Value} (h : Bk w g cur) (j : Nat) : w.cell? ⟨g, j, none⟩ = cur[j]? := by
  have h' : w.heap[g]? = some (.cells cur.toArray 59 (0, 0)) := h
  simp [World.cell?, h']
theorem Bk.frozen {w : World} {g : Nat} {cur : List Value} (h : Bk w g cur) (j : Nat) : w.frozen? ⟨g, j, none⟩ = false := by
  have h' : w.heap[g]? = some (.cells cur.toArray 59 (0, 0)) := h
  simp [World.frozen?, h']
theorem Bk.drew {w : World} {g : Nat} {cur : List Value} (h : Bk w g cur) : Bk w.drew g cur := h
theorem grown_refl (w : World) (row : Option Nat) : w.grownBy w row := ⟨rfl, rfl, rfl, Nat.le_refl _, fun _ _ _ => rfl⟩
theorem grown_trans {w w1 w2 : World} {row : Option Nat} (h1 : w.grownBy w1 row) (h2 : w1.grownBy w2 row) : w.grownBy w2 row :=
  ⟨h2.os.trans h1.os, h2.tape.trans h1.tape, h2.output.trans h1.output, Nat.le_trans h1.size h2.size, fun k hk hr => (h2.block k (Nat.lt_of_lt_of_le hk h1.size) hr).trans (h1.block k hk hr)⟩
theorem drew_grown {w w1 : World} {row : Option Nat} (h : w.drew.grownBy w1 row) : w.grownBy w1 row := ⟨h.os, h.tape, h.output, h.size, h.block⟩
theorem grown_setCell (w : World) (g o : Nat) (v : Value) : w.grownBy (w.setCell ⟨g, o, none⟩ v) (some g) :=
  ⟨rfl, rfl, rfl, by simp [World.setCell], fun k _ hr => Deep.blk_setCell_other w _ v k (fun e => hr (by rw [e]))⟩
theorem OwnP.parts {w : World} {B : Nat} {a : Option Addr} {n c : Nat} {l : List Nat} (h : OwnP w B 59 a n c l) (h0 : 0 < n) :
    ∃ g cur, a = some ⟨g, 0, none⟩ ∧ B ≤ g ∧ Bk w g cur ∧ n ≤ c ∧ c ≤ maxLen ∧ cur.length = c ∧ cur.take n = pcells l := by
  rcases h.2 with ⟨h2, h3⟩ | ⟨g, c', cur, h1, h3, h4, h5, h6, h7, h8⟩
  · omega
  · cases h1
    refine ⟨g, cur.toList, rfl, h3, by show _ = _; simpa using h4, h5, h6, by simpa using h7, ?_⟩
    simpa using h8
theorem OwnP.of {w : World} {B g n c : Nat} {cur : List Value} {l : List Nat} (hB : B ≤ g) (hk : Bk w g cur) (hn : n ≤ c) (hc : c ≤ maxLen) (hl : cur.length = c) (ht : cur.take n = pcells l) : OwnP w B 59 (some ⟨g, 0, none⟩) n c l := by
  have hlen : l.length = n := by
    have := congrArg List.length ht
    simp [pcells] at this
    omega
  refine ⟨by simp [pcells, hlen], .inr ⟨g, c, cur.toArray, rfl, hB, hk, hn, hc, by simp [hl], by simpa using ht⟩⟩
/-- s[lo:hi], s[lo:], s[:hi] of a row at its place. -/
theorem slice_at (g n c lo hi : Nat) (h1 : lo ≤ hi) (h2 : hi ≤ c) :
    ∃ o, (lo < c → o = lo) ∧ ∀ wx, (Instr.sliceAt 82 (.slice (some ⟨g, 0, none⟩) n c) (some (.int .i64 lo)) (some (.int .i64 hi)) none).run Try.prog wx = .ok (.slice (some ⟨g, o, none⟩) (hi - lo) (c - lo)) wx := by
  have ht : Try.prog.underlying 82 = some (.slice (Try.prog.elem 82)) := by rw [Try.elem82]; exact Try.underlying82
  refine ⟨if c = lo then 0 else lo, fun h => by rw [if_neg (by omega)], fun wx => ?_⟩
  rw [run_sliceAt_slice _ _ _ _ _ _ ht, run_slice_lh (P := Try.prog) wx 82 _ n c ht .i64 .i64 lo hi (by omega) (by omega) (by omega), Try.elem82, Try.size59]
  simp only [Result.andThen, sliced, Int.toNat_natCast]
  split <;> simp [*, add_flat]
theorem slice_lo (g n c lo : Nat) (h1 : lo ≤ n) :
    ∃ o, (lo < c → o = lo) ∧ ∀ wx, (Instr.sliceAt 82 (.slice (some ⟨g, 0, none⟩) n c) (some (.int .i64 lo)) none none).run Try.prog wx = .ok (.slice (some ⟨g, o, none⟩) (n - lo) (c - lo)) wx := by
  have ht : Try.prog.underlying 82 = some (.slice (Try.prog.elem 82)) := by rw [Try.elem82]; exact Try.underlying82
  refine ⟨if c = lo then 0 else lo, fun h => by rw [if_neg (by omega)], fun wx => ?_⟩
  rw [run_sliceAt_slice _ _ _ _ _ _ ht, run_slice_l (P := Try.prog) wx 82 _ n c ht .i64 lo (by omega) (by omega), Try.elem82, Try.size59]
  simp only [Result.andThen, sliced, Int.toNat_natCast]
  split <;> simp [*, add_flat]
theorem slice_hi (g n c hi : Nat) (h1 : hi ≤ c) :
    ∀ wx, (Instr.sliceAt 82 (.slice (some ⟨g, 0, none⟩) n c) none (some (.int .i64 hi)) none).run Try.prog wx = .ok (.slice (some ⟨g, 0, none⟩) hi c) wx := by
  have ht : Try.prog.underlying 82 = some (.slice (Try.prog.elem 82)) := by rw [Try.elem82]; exact Try.underlying82
  intro wx
  rw [run_sliceAt_slice _ _ _ _ _ _ ht, run_slice_h (P := Try.prog) wx 82 _ n c ht .i64 hi (by omega) (by omega), Try.elem82, Try.size59]
  simp [Result.andThen, sliced, add_flat]
theorem cur_set {w : World} {g : Nat} {cur : List Value} (h : Bk w g cur) (o : Nat) (v : Value) : Bk (w.setCell ⟨g, o, none⟩ v) g (cur.set o v) := by
  have h' : w.heap[g]? = some (.cells cur.toArray 59 (0, 0)) := h
  have hlt : g < w.heap.size := (Array.getElem?_eq_some_iff.1 h').1
  have hv : w.heap[g] = .cells cur.toArray 59 (0, 0) := (Array.getElem?_eq_some_iff.1 h').2
  show (w.setCell ⟨g, o, none⟩ v).heap[g]? = _
  simp [World.setCell, Array.getElem?_modify, h']
theorem splice_set (cur : List Value) (o : Nat) (v : Value) (vs : List Value) (h : o + (vs.length + 1) ≤ cur.length) : splice (cur.set o v) (o + 1) vs = splice cur o (v :: vs) := by
  unfold splice
  rw [List.length_cons, List.take_set, List.drop_set_of_lt (by omega), show o + 1 + vs.length = o + (vs.length + 1) by omega]
  have : (cur.take (o + 1)).set o v = cur.take o ++ [v] := by
    rw [List.take_add_one, List.getElem?_eq_getElem (by omega), Option.toList_some, List.set_append_right _ _ (by rw [List.length_take]; omega)]
    rw [List.length_take, Nat.min_eq_left (by omega), Nat.sub_self]; rfl
  rw [this, List.append_assoc]; rfl
theorem bk_cells {g : Nat} : ∀ (vs : List Value) (o : Nat) (w : World) (cur : List Value), Bk w g cur → o + vs.length ≤ cur.length → Bk (w.setCells g o vs) g (splice cur o vs) ∧ w.grownBy (w.setCells g o vs) (some g)
  | [], o, w, cur, h, hl => ⟨by simpa [splice, World.setCells] using h, grown_refl _ _⟩
  | v :: vs, o, w, cur, h, hl => by
    have h1 := bk_cells vs (o + 1) (w.setCell ⟨g, o, none⟩ v) (cur.set o v) (cur_set h o v) (by simp at hl ⊢; omega)
    rw [splice_set cur o v vs (by simpa using hl)] at h1
    exact ⟨h1.1, grown_trans (grown_setCell w g o v) h1.2⟩
/-- clear(d), d in block g. -/
theorem clear_in {w : World} {ops : Array Oper} {rest : List Oper} {o : Oper} {ac : Act} {Q : Exit → Act → World → Prop} (hgd : o.guard = none) (d : Operand) (ho : o.op = .call { callee := .builtin .clear, args := #[d], argTypes := #[82] })
    {g off dLen dCap : Nat} (hd : ac.eval d = .slice (some ⟨g, off, none⟩) dLen dCap) (cur : List Value) (hB : Bk w g cur) (hfit : off + dLen ≤ cur.length)
    (h : ∀ w', Hid (Bk w' g (splice cur off (List.replicate dLen (.pointer none)))) → Hid (w.grownBy w' (some g)) → wpList Try.prog ops Q rest (ac.put o.dst (.tuple #[])) w') : wpList Try.prog ops Q (o :: rest) ac w := by
  by_cases h0 : dLen = 0
  · subst h0
    have hr : ∀ ty, (Builtin.clear_ #[82] ty #[.slice (some ⟨g, off, none⟩) 0 dCap]).run Try.prog w = .ok (.tuple #[]) w := by
      intro ty
      simp [Builtin.clear_, run_underlying Try.underlying82]
    refine wpList_plain hgd fun K hK => ?_
    unfold Oper.wp
    simp [execOp, ho, resolve, invoke, builtin, hd, hr, Result.andThen]
    exact hK _ _ (h w (by show Bk _ _ _; simpa [splice] using hB) (grown_refl _ _))
  · have hz : ∀ w, (zeroValue 59).run Try.prog w = .ok (.pointer none) w := fun w => by go_simp
    have hr := fun ty => Lib.run_clear_slice (P := Try.prog) w 82 59 ty (.pointer none) Try.underlying82 hz rfl rfl g off dLen dCap (by omega)
      (fun j hj => by rw [hB.cell, List.getElem?_eq_getElem (by omega)]; rfl) (fun j hj => hB.frozen _)
    have hb := bk_cells (List.replicate dLen (.pointer none)) off w cur hB (by simpa using hfit)
    refine wpList_plain hgd fun K hK => ?_
    unfold Oper.wp
    simp [execOp, ho, resolve, invoke, builtin, hd, hr, Result.andThen]
    exact hK _ _ (h _ hb.1 hb.2)
theorem pcells_len (l : List Nat) : (pcells l).length = l.length := List.length_map ..
theorem pcells_take (l : List Nat) (n : Nat) : (pcells l).take n = pcells (l.take n) := (List.map_take ..).symm
theorem pcells_drop (l : List Nat) (n : Nat) : (pcells l).drop n = pcells (l.drop n) := (List.map_drop ..).symm
theorem of_take {cur L : List Value} {n : Nat} (h : cur.take n = L) (j : Nat) (hj : j < n) : cur[j]? = L[j]? := by rw [← h, List.getElem?_take, if_pos hj]
theorem cell_of {w : World} {g : Nat} {cur : List Value} {l : List Nat} {n : Nat} (hB : Bk w g cur) (ht : cur.take n = pcells l) (i : Nat) (hl : l.length ≤ n) : ∀ j v, (pcells (l.drop i))[j]? = some v → w.cell? ((⟨g, i, none⟩ : Addr).add j) = some v := by
  intro j v hv
  rw [add_flat, hB.cell]
  have hj : i + j < l.length := by
    rw [← pcells_drop, List.getElem?_drop] at hv
    have := (List.getElem?_eq_some_iff.1 hv).1
    rwa [pcells_len] at this
  rw [of_take ht _ (by omega)]
  rw [← pcells_drop, List.getElem?_drop] at hv
  exact hv
theorem run_append_in (w : World) (g n c : Nat) (cur : List Value) (hB : Bk w g cur) (hc : cur.length = c) (ad : Addr) (m xc : Nat) (cs : List Value) (hm : cs.length = m) (hsrc : ∀ j v, cs[j]? = some v → w.cell? (ad.add j) = some v) (h1 : ∀ v ∈ cs, v.oneCell' = true) (hroom : n + m ≤ c) :
    ∃ w', (∀ ty, (Builtin.append_ #[82, 82] ty #[.slice (some ⟨g, 0, none⟩) n c, .slice (some ad) m xc]).run Try.prog w = .ok (.slice (some ⟨g, 0, none⟩) (n + m) c) w') ∧ Bk w' g (splice cur n cs) ∧ w.grownBy w' (some g) := by
  obtain ⟨i0, hi, hz0, hz1, hz2⟩ := info_parts Try.infoT
  have hb := bk_cells cs n w cur hB (by omega)
  refine ⟨_, fun ty => ?_, hb.1, hb.2⟩
  have hrun := run_append_room_cells (P := Try.prog) w 82 ty 59 i0 Try.underlying82 hi g 0 n c ad m xc cs (by rw [hz1]; omega) hsrc h1 hroom
    (fun j hj => by rw [hB.cell, hz1, List.getElem?_eq_getElem (by omega)]; rfl) (fun j hj => hB.frozen _)
  rw [hrun, hz1, Nat.zero_add, Nat.mul_one]
theorem step_append_in {w : World} {ops : Array Oper} {o : Oper} {ac : Act} {K : Act → World → Prop} {Q : Exit → Act → World → Prop} {E : Prop} (hgd : o.guard = none) (s x : Operand) (ho : o.op = .call { callee := .builtin .append, args := #[s, x], argTypes := #[82, 82] })
    {g n c : Nat} {ad : Addr} {m xc : Nat} (hs : ac.eval s = .slice (some ⟨g, 0, none⟩) n c) (hx : ac.eval x = .slice (some ad) m xc) (cur : List Value) (hB : Bk w g cur) (hc : cur.length = c) (cs : List Value) (hm : cs.length = m)
    (hsrc : ∀ j v, cs[j]? = some v → w.cell? (ad.add j) = some v) (h1 : ∀ v ∈ cs, v.oneCell' = true) (hroom : n + m ≤ c)
    (h : ∀ w', Hid (Bk w' g (splice cur n cs)) → Hid (w.grownBy w' (some g)) → K (ac.put o.dst (.slice (some ⟨g, 0, none⟩) (n + m) c)) w') : if Region.wanted o (yielded ops ac.tmps) = true then Oper.wp Try.prog o ac w K Q else E := by
  have hw : Region.wanted o (yielded ops ac.tmps) = true := by simp [Region.wanted, hgd]
  rw [if_pos hw]
  obtain ⟨w', hr, h2, h3⟩ := run_append_in w g n c cur hB hc ad m xc cs hm hsrc h1 hroom
  unfold Oper.wp
  simp [execOp, ho, resolve, invoke, builtin, hs, hx, hr, Result.andThen]
  exact h w' h2 h3
theorem take_splice_at (cur cs : List Value) (i : Nat) (h : i + cs.length ≤ cur.length) : (splice cur i cs).take (i + cs.length) = cur.take i ++ cs := by
  unfold splice
  rw [← List.append_assoc, List.take_append_of_le_length (by rw [List.length_append, List.length_take]; omega), List.take_of_length_le (by rw [List.length_append, List.length_take]; omega)]
theorem take_splice_low (cur cs : List Value) (i k : Nat) (h : k ≤ i) (hi : i ≤ cur.length) : (splice cur i cs).take k = cur.take k := by
  unfold splice
  rw [List.take_append_of_le_length (by rw [List.length_take]; omega), List.take_take, Nat.min_eq_left h]
/-- s[lo:hi:max]. -/
theorem slice_lhm (a : Option Addr) (n c lo hi mx : Nat) (h1 : lo ≤ hi) (h2 : hi ≤ mx) (h3 : mx ≤ c) :
    ∃ a', ∀ wx, (Instr.sliceAt 82 (.slice a n c) (some (.int .i64 lo)) (some (.int .i64 hi)) (some (.int .i64 mx))).run Try.prog wx = .ok (.slice a' (hi - lo) (mx - lo)) wx := by
  have ht : Try.prog.underlying 82 = some (.slice (Try.prog.elem 82)) := by rw [Try.elem82]; exact Try.underlying82
  refine ⟨if mx = lo then a else a.map (·.add (lo * 1)), fun wx => ?_⟩
  rw [run_sliceAt_slice _ _ _ _ _ _ ht, run_slice_lhm (P := Try.prog) wx 82 _ n c ht .i64 .i64 .i64 lo hi mx (by omega) (by omega) (by omega) (by omega), Try.elem82, Try.size59]
  simp only [Result.andThen, sliced, Int.toNat_natCast]
set_option maxRecDepth 100000 in
set_option maxHeartbeats 4000000 in
theorem delete_some (B : Nat) (g n c : Nat) (l : List Nat) (i j : Nat) (w : World) (cur : List Value) (hBg : B ≤ g) (hg : Bk w g cur) (hn : n ≤ c) (hcm : c ≤ maxLen) (hcl : cur.length = c) (ht : cur.take n = pcells l)
    (hl : l.length = n) (hi : i < j) (hj : j ≤ n) :
    Calls Try.prog 76 #[.slice (some ⟨g, 0, none⟩) n c, .int .i64 i, .int .i64 j] w fun e w' => ∃ n' c', e = .returned (.slice (some ⟨g, 0, none⟩) n' c') ∧ OwnP w' B 59 (some ⟨g, 0, none⟩) n' c' (l.take i ++ l.drop j) ∧ w.grownBy w' (some g) := by
  unfold maxLen at hcm
  obtain ⟨a3, s1⟩ := slice_lhm (some ⟨g, 0, none⟩) n c i j n (by omega) hj hn
  have s2 := slice_hi g n c i (by omega)
  obtain ⟨o3, ho3, s3⟩ := slice_lo g n c j (by omega)
  obtain ⟨k, hK⟩ : ∃ k, i + (n - j) = k := ⟨_, rfl⟩
  obtain ⟨o4, ho4, s4⟩ := slice_at g k c k n (by omega) (by omega)
  have hO4 : o4 = k := ho4 (by omega)
  subst hO4
  obtain ⟨X, hX⟩ : ∃ X, X = pcells (l.drop j) := ⟨_, rfl⟩
  have hXl : X.length = n - j := by rw [hX, pcells_len, List.length_drop]; omega
  have HXl : Hid (X.length = n - j) := hXl
  have HG : Hid (Bk w.drew g cur) := hg.drew
  have HC : Hid (cur.length = c) := hcl
  have HX2 : Hid (∀ q v, X[q]? = some v → w.drew.cell? ((⟨g, o3, none⟩ : Addr).add q) = some v) := by
    show ∀ _, _
    intro q v hv
    have hq := (List.getElem?_eq_some_iff.1 hv).1
    rw [ho3 (by omega)]
    rw [hX] at hv
    exact cell_of hg.drew ht j (by omega) q v hv
  have HX4 : Hid (∀ v ∈ X, v.oneCell' = true) := by show ∀ _, _; rw [hX]; exact pcells_one
  have HR : Hid (i + (n - j) ≤ c) := by show _ ≤ _; omega
  have HK : Hid (i + (n - j) = o4) := hK
  have HL : Hid ((splice cur i X).take o4 = pcells (l.take i ++ l.drop j)) := by
    show _ = _
    have := take_splice_at cur X i (by omega)
    rw [show i + X.length = o4 by omega] at this
    rw [this, pcells_append, hX, ← pcells_take, ← ht, List.take_take, Nat.min_eq_left (by omega)]
  have HF : Hid (o4 + (n - o4) ≤ (splice cur i X).length) := by show _ ≤ _; rw [length_splice _ _ _ (by omega)]; omega
  have HF2 : Hid ((splice cur i X).length = c) := by show _ = _; rw [length_splice _ _ _ (by omega)]; omega
  have HBg : Hid (B ≤ g) := hBg
  have hz2 : ¬ ((i : Int) = (j : Int)) := by omega
  have hok : o4 ≤ c := by omega
  have hon : o4 ≤ n := by omega
  clear hX hXl ht hcl hg ho3 ho4 hBg hK
  go_enter Try.func76, Try.ntmps76
  go_wp2_with fail
  go_region_law (refine step_append_in rfl (.tmp 22) (.tmp 25) rfl (by simp [Act.eval, Act.put] <;> rfl) (by simp [Act.eval, Act.put] <;> rfl) cur HG.out HC.out X HXl.out HX2.out HX4.out HR.out ?_; intro w1 HB1 HG1; rw [HK.out])
  go_wp2_with (refine clear_in rfl (.tmp 31) rfl rfl _ HB1.out HF.out ?_; intro w2 HB2 HG2)
  go_ret
  refine ⟨_, _, rfl, OwnP.of HBg.out HB2.out hok hcm ?_ ?_, grown_trans (drew_grown HG1.out) HG2.out⟩
  · exact (length_splice _ _ _ (by rw [List.length_replicate]; exact HF.out)).trans HF2.out
  · exact (take_splice_low _ _ _ _ (Nat.le_refl _) (Nat.le_trans hok (Nat.le_of_eq HF2.out.symm))).trans HL.out
theorem Delete_row (B g n c : Nat) (l : List Nat) (i : Nat) (w : World) (hO : OwnP w B 59 (some ⟨g, 0, none⟩) n c l) (hi : i < n) :
    Calls Try.prog 76 #[.slice (some ⟨g, 0, none⟩) n c, .int .i64 i, .int .i64 ((i : Int) + 1)] w fun e w' => ∃ n' c', e = .returned (.slice (some ⟨g, 0, none⟩) n' c') ∧ OwnP w' B 59 (some ⟨g, 0, none⟩) n' c' (l.take i ++ l.drop (i + 1)) ∧ w.grownBy w' (some g) := by
  obtain ⟨g', cur, ha, h1, h2, h3, h4, h5, h6⟩ := OwnP.parts hO (by omega)
  cases ha
  exact delete_some B g n c l i (i + 1) w cur h1 h2 h3 h4 h5 h6 (OwnP.len hO) (by omega) hi
end Go.Proofs.Ytejnmikbbnckeaa
