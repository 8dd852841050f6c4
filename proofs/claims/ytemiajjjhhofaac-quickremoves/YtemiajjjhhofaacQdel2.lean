/-
  slices.DeleteFunc, without, slices.Reverse at rows of texts.
-/
import Derived.Test.YtemiajjjhhofaacQdel
namespace Go.Proofs.Ytemiajjjhhofaac
open Go.RowKit Go.PlainAid

/-- Block g is a row of texts with these cells. -/
def BkS (w : World) (g : Nat) (cur : List Value) : Prop := w.heap[g]? = some (.cells cur.toArray 9 (0, 0))
theorem BkS.lt {w : World} {g : Nat} {cur : List Value} (h : BkS w g cur) : g < w.heap.size := (Array.getElem?_eq_some_iff.1 h).1
theorem BkS.cell {w : World} {g : Nat} {cur : List Value} (h : BkS w g cur) (j : Nat) : w.cell? ⟨g, j, none⟩ = cur[j]? := by
  have h' : w.heap[g]? = some (.cells cur.toArray 9 (0, 0)) := h
  simp [World.cell?, h']
theorem BkS.frozen {w : World} {g : Nat} {cur : List Value} (h : BkS w g cur) (j : Nat) : w.frozen? ⟨g, j, none⟩ = false := by
  have h' : w.heap[g]? = some (.cells cur.toArray 9 (0, 0)) := h
  simp [World.frozen?, h']
theorem BkS.set {w : World} {g : Nat} {cur : List Value} (h : BkS w g cur) (o : Nat) (v : Value) : BkS (w.setCell ⟨g, o, none⟩ v) g (cur.set o v) := by
  have h' : w.heap[g]? = some (.cells cur.toArray 9 (0, 0)) := h
  show _ = _
  rw [heap_set h']; simp
theorem BkS.far {w : World} {g b o : Nat} {cur : List Value} {v : Value} (h : BkS w g cur) (hne : g ≠ b) : BkS (w.setCell ⟨b, o, none⟩ v) g cur := by
  show _ = _
  rw [heap_other v hne]; exact h
theorem OwnS.bk {w : World} {B g n c : Nat} {ls : List ByteArray} (h : OwnS w B (some ⟨g, 0, none⟩) n c ls) : ∃ cur, BkS w g cur ∧ cur.length = c ∧ cur.take n = ls.map Value.string ∧ n ≤ c ∧ c ≤ maxLen ∧ B ≤ g := by
  rcases h.2 with ⟨h2, -⟩ | ⟨g', c', cur, h1, h3, h4, h5, h6, h7, h8⟩
  · cases h2
  · cases h1
    refine ⟨cur.toList, by show _ = _; simpa using h4, by simpa using h7, by simpa using h8, h5, h6, h3⟩
theorem OwnS.of_bk {w : World} {B g n c : Nat} {cur : List Value} {ls : List ByteArray} (hB : B ≤ g) (hk : BkS w g cur) (hn : n ≤ c) (hc : c ≤ maxLen) (hl : cur.length = c) (ht : cur.take n = ls.map Value.string) : OwnS w B (some ⟨g, 0, none⟩) n c ls := by
  have hlen : ls.length = n := by
    have := congrArg List.length ht
    simp at this
    omega
  refine ⟨by simp [hlen], .inr ⟨g, c, cur.toArray, rfl, hB, hk, hn, hc, by simp [hl], by simpa using ht⟩⟩
theorem bks_cells {g : Nat} : ∀ (vs : List Value) (o : Nat) (w : World) (cur : List Value), BkS w g cur → o + vs.length ≤ cur.length → BkS (w.setCells g o vs) g (splice cur o vs) ∧ w.grownBy (w.setCells g o vs) (some g)
  | [], o, w, cur, h, hl => ⟨by simpa [splice, World.setCells] using h, grown_refl _ _⟩
  | v :: vs, o, w, cur, h, hl => by
    have h1 := bks_cells vs (o + 1) (w.setCell ⟨g, o, none⟩ v) (cur.set o v) (h.set o v) (by simp at hl ⊢; omega)
    rw [splice_set cur o v vs (by simpa using hl)] at h1
    exact ⟨h1.1, grown_trans (grown_setCell w g o v) h1.2⟩
/-- clear(d), d in block g, a row of texts. -/
theorem clear_inS {w : World} {ops : Array Oper} {rest : List Oper} {o : Oper} {ac : Act} {Q : Exit → Act → World → Prop} (hgd : o.guard = none) (d : Operand) (ho : o.op = .call { callee := .builtin .clear, args := #[d], argTypes := #[22] })
    {g off dLen dCap : Nat} (hd : ac.eval d = .slice (some ⟨g, off, none⟩) dLen dCap) (cur : List Value) (hB : BkS w g cur) (hfit : off + dLen ≤ cur.length)
    (h : ∀ w', Hid (BkS w' g (splice cur off (List.replicate dLen (.string ⟨#[]⟩)))) → Hid (w.grownBy w' (some g)) → wpList Try.prog ops Q rest (ac.put o.dst (.tuple #[])) w') : wpList Try.prog ops Q (o :: rest) ac w := by
  by_cases h0 : dLen = 0
  · subst h0
    have hr : ∀ ty, (Builtin.clear_ #[22] ty #[.slice (some ⟨g, off, none⟩) 0 dCap]).run Try.prog w = .ok (.tuple #[]) w := by
      intro ty
      simp [Builtin.clear_, run_underlying Try.underlying22]
    refine wpList_plain hgd fun K hK => ?_
    unfold Oper.wp
    simp [execOp, ho, resolve, invoke, builtin, hd, hr, Result.andThen]
    exact hK _ _ (h w (by show BkS _ _ _; simpa [splice] using hB) (grown_refl _ _))
  · have hz : ∀ w, (zeroValue 9).run Try.prog w = .ok (.string ⟨#[]⟩) w := fun w => by go_simp
    have hr := fun ty => Lib.run_clear_slice (P := Try.prog) w 22 9 ty (.string ⟨#[]⟩) Try.underlying22 hz rfl rfl g off dLen dCap (by omega)
      (fun j hj => by rw [hB.cell, List.getElem?_eq_getElem (by omega)]; rfl) (fun j hj => hB.frozen _)
    have hb := bks_cells (List.replicate dLen (.string ⟨#[]⟩)) off w cur hB (by simpa using hfit)
    refine wpList_plain hgd fun K hK => ?_
    unfold Oper.wp
    simp [execOp, ho, resolve, invoke, builtin, hd, hr, Result.andThen]
    exact hK _ _ (h _ hb.1 hb.2)

/-- s[:hi] and s[lo:] of a row of texts. -/
theorem slice_hiS (g n c hi : Nat) (h1 : hi ≤ c) :
    ∀ wx, (Instr.sliceAt 22 (.slice (some ⟨g, 0, none⟩) n c) none (some (.int .i64 hi)) none).run Try.prog wx = .ok (.slice (some ⟨g, 0, none⟩) hi c) wx := by
  have ht : Try.prog.underlying 22 = some (.slice (Try.prog.elem 22)) := by rw [Try.elem22]; exact Try.underlying22
  intro wx
  rw [run_sliceAt_slice _ _ _ _ _ _ ht, run_slice_h (P := Try.prog) wx 22 _ n c ht .i64 hi (by omega) (by omega), Try.elem22, Try.size9]
  simp [Result.andThen, sliced, add_flat]

theorem slice_loS (g n c lo : Nat) (h1 : lo ≤ n) :
    ∃ o, (lo < c → o = lo) ∧ ∀ wx, (Instr.sliceAt 22 (.slice (some ⟨g, 0, none⟩) n c) (some (.int .i64 lo)) none none).run Try.prog wx = .ok (.slice (some ⟨g, o, none⟩) (n - lo) (c - lo)) wx := by
  have ht : Try.prog.underlying 22 = some (.slice (Try.prog.elem 22)) := by rw [Try.elem22]; exact Try.underlying22
  refine ⟨if c = lo then 0 else lo, fun h => by rw [if_neg (by omega)], fun wx => ?_⟩
  rw [run_sliceAt_slice _ _ _ _ _ _ ht, run_slice_l (P := Try.prog) wx 22 _ n c ht .i64 lo (by omega) (by omega), Try.elem22, Try.size9]
  simp only [Result.andThen, sliced, Int.toNat_natCast]
  split <;> simp [*, add_flat]
/-- What DeleteFunc leaves: a row without some texts, in its place. -/
def Cut9 (w : World) (C : Nat) (ls : List ByteArray) (e : Ending) (w' : World) (M : List Nat) : Prop :=
  ∃ a' n' c', e = .returned (.slice a' n' c') ∧ OwnS w' C a' n' c' ls ∧ Stay w w' M

set_option maxRecDepth 100000 in
set_option maxHeartbeats 400000 in
theorem DeleteFunc_cl (C : Nat) (a : Option Addr) (n c : Nat) (ls : List ByteArray) (b1 b2 m : Nat) (s : ByteArray) (w : World) (hO : OwnS w C a n c ls) (h : Cl w b1 b2 s m) (hm : m ≤ 1000000) (hn : n ≤ 1000000) (hg1 : ∀ x, a = some x → b1 ≠ x.block ∧ b2 ≠ x.block) :
    Calls Try.prog 40 #[.slice a n c, .func (.func 41) #[] #[ptr b1, ptr b2]] w fun e w' => Cut9 w C (kp s m ls) e w' (b2 :: (a.map (·.block)).toList) := by
  have HI := IndexFunc_cl a n c ls b1 b2 m s w hO.rd h hm
  have HO : Hid (OwnS w C a n c ls) := hO
  have HC : Hid (Cl w b1 b2 s m) := h
  have HG : Hid (∀ x, a = some x → b1 ≠ x.block ∧ b2 ≠ x.block) := hg1
  clear hO h hg1
  go_enter Try.func40, Try.ntmps40
  go_wp2_with fail
  refine HI.mono ?_
  rintro e w1 (⟨rfl, rfl, hK⟩ | ⟨i0, k0, rfl, hi0, hmk, rfl, hK1, hK2⟩)
  · have HK : Hid (kp s m ls = ls) := hK
    clear hK HI
    go_wp2
    go_ret
    exact ⟨_, _, _, rfl, by rw [HK.out]; exact HO.out, Stay.of_below (Below.refl _ _) _⟩
  · obtain ⟨b, off, ha, -⟩ := HO.out.rd.cell i0 hi0
    obtain ⟨g, hag⟩ : ∃ g, a = some ⟨g, 0, none⟩ := by
      rcases HO.out.2 with ⟨h2, -⟩ | ⟨g', c', cur, h1, -⟩
      · rw [ha] at h2; cases h2
      · injection h1 with e1; exact ⟨g', e1⟩
    subst hag
    obtain ⟨cur, hcur, hcl, hct, hnc, hcm, hCg⟩ := HO.out.bk
    obtain ⟨hg1, hg2⟩ := HG.out _ rfl
    have hg1' : b1 ≠ g := hg1
    have hg2' : b2 ≠ g := hg2
    have HL : Hid (ls.length = n) := HO.out.len
    have HR0 : Hid (∃ cu : List Value, BkS (w.setCell ⟨b2, 0, none⟩ (.int .i64 (k0 : Nat))) g cu ∧ cu.length = c ∧ cu.take i0 = (kp s m (ls.take (i0 + 1))).map Value.string ∧ ∀ q, i0 + 1 ≤ q → q < n → cu[q]? = some (.string (txt ls q))) := by
      refine ⟨cur, hcur.far (Ne.symm hg2'), hcl, ?_, ?_⟩
      · rw [hK1]
        have := congrArg (List.take i0) hct
        rw [List.take_take, Nat.min_eq_left (by omega), ← List.map_take] at this
        exact this
      · intro q _ hq
        have hqq : cur[q]? = (ls.map Value.string)[q]? := by rw [← hct, List.getElem?_take, if_pos hq]
        rw [hqq, List.getElem?_map, txt, List.getD_eq_getElem?_getD, List.getElem?_eq_getElem (by have := HL.out; omega)]; rfl
    have HC0 : Hid (Cl (w.setCell ⟨b2, 0, none⟩ (.int .i64 (k0 : Nat))) b1 b2 s k0) := by have := HC.out; rw [hmk] at this; exact this.set k0
    have HS0 : Hid (Stay w (w.setCell ⟨b2, 0, none⟩ (.int .i64 (k0 : Nat))) [b2, g]) := Stay.set.mono (by simp)
    have HKl : Hid ((kp s m (ls.take (i0 + 1))).length = i0 ∧ lf s m (ls.take (i0 + 1)) = k0) := ⟨by rw [hK1, List.length_take]; have := HL.out; omega, hK2⟩
    have HCg : Hid (C ≤ g ∧ n ≤ c ∧ c ≤ maxLen) := ⟨hCg, hnc, hcm⟩
    have hii : ¬ ((i0 : Int) = -1) := by omega
    have hnc2 : n ≤ c := hnc
    have hcm2 : c ≤ 9223372036854775807 := by unfold maxLen at hcm; omega
    have hk06 : k0 ≤ 1000000 := by omega
    clear HI hK1 hK2 hcur hcl hct ha hg1 hg2 hCg hnc hcm hmk
    generalize w.setCell ⟨b2, 0, none⟩ (.int .i64 (k0 : Nat)) = w0 at *
    go_wp2
    go_loopg [5, 6, 7] (n - (i0 + 1)) (fun gg iv jv vv wr => ∃ j i k : Nat, j + gg = n ∧ iv = .int .i64 i ∧ jv = .int .i64 j ∧ i < j ∧ k ≤ 1000000 ∧ Hid ((kp s m (ls.take j)).length = i ∧ lf s m (ls.take j) = k) ∧ Hid (∃ cu : List Value, BkS wr g cu ∧ cu.length = c ∧ cu.take i = (kp s m (ls.take j)).map Value.string ∧ ∀ q, j ≤ q → q < n → cu[q]? = some (.string (txt ls q))) ∧ Hid (Cl wr b1 b2 s k) ∧ Hid (Stay w wr [b2, g]))
    case atStart => exact ⟨i0 + 1, i0, k0, by omega, rfl, by go_num, by omega, by omega, HKl, HR0, HC0, HS0⟩
    case round =>
      obtain ⟨j, i, k, hjg, rfl, rfl, hij, hk6, HK, HRr, HCr, HSr⟩ := hrel
      obtain ⟨cu, hb, hcl, hct, hcq⟩ := HRr.out
      by_cases hjn : (j : Int) < n
      · have hcj := hcq j (Nat.le_refl _) (by omega)
        have hc1 : wr.cell? ⟨g, j, none⟩ = some (.string (txt ls j)) := by rw [hb.cell]; exact hcj
        have hc2 : ∃ v, wr.cell? ⟨g, i, none⟩ = some v := ⟨cu[i]'(by omega), by rw [hb.cell, List.getElem?_eq_getElem (by omega)]⟩
        obtain ⟨v0, hv0⟩ := hc2
        have hf2 := hb.frozen i
        have hjl : j < ls.length := by have := HL.out; omega
        have HT : Hid (ls.take (j + 1) = ls.take j ++ [txt ls j]) := take_snocB ls j hjl
        have HK1 : Hid (kp s m (ls.take (j + 1)) = kp s m (ls.take j) ++ kp s k [txt ls j] ∧ lf s m (ls.take (j + 1)) = lf s k [txt ls j]) := by
          show _ ∧ _
          rw [HT.out, kp_append, lf_append, HK.out.2]; exact ⟨rfl, rfl⟩
        have HCU : Hid (BkS wr g cu ∧ cu.length = c ∧ cu.take i = (kp s m (ls.take j)).map Value.string ∧ ∀ q, j ≤ q → q < n → cu[q]? = some (.string (txt ls q))) := ⟨hb, hcl, hct, hcq⟩
        generalize txt ls j = t at hc1 HK1
        clear hb hcl hct hcq hcj
        by_cases hh : t = s ∧ k ≠ 0
        · obtain ⟨hts, hk0⟩ := hh
          subst hts
          obtain ⟨k1, rfl⟩ : ∃ k1, k = k1 + 1 := ⟨k - 1, by omega⟩
          have HY := cl_yes b1 b2 k1 t wr HCr.out (by omega)
          have HK2 : Hid ((kp t m (ls.take (j + 1))).length = i ∧ lf t m (ls.take (j + 1)) = k1) := by
            show _ ∧ _
            rw [HK1.out.1, HK1.out.2, (kp_one t t (k1 + 1)).1, (kp_one t t (k1 + 1)).2, if_pos ⟨rfl, by omega⟩, if_pos ⟨rfl, by omega⟩, List.append_nil]
            exact ⟨HK.out.1, by omega⟩
          have HR2 : Hid (∃ cu : List Value, BkS (wr.setCell ⟨b2, 0, none⟩ (.int .i64 (k1 : Nat))) g cu ∧ cu.length = c ∧ cu.take i = (kp t m (ls.take (j + 1))).map Value.string ∧ ∀ q, j + 1 ≤ q → q < n → cu[q]? = some (.string (txt ls q))) := by
            obtain ⟨c1, c2, c3, c4⟩ := HCU.out
            refine ⟨cu, c1.far (Ne.symm hg2'), c2, ?_, fun q h1 h2 => c4 q (by omega) h2⟩
            rw [HK1.out.1, (kp_one t t (k1 + 1)).1, if_pos ⟨rfl, by omega⟩, List.append_nil]; exact c3
          have HC2 : Hid (Cl (wr.setCell ⟨b2, 0, none⟩ (.int .i64 (k1 : Nat))) b1 b2 t k1) := HCr.out.set k1
          have HS2 : Hid (Stay w (wr.setCell ⟨b2, 0, none⟩ (.int .i64 (k1 : Nat))) [b2, g]) := HSr.out.trans Stay.set (by simp)
          go_wp2_with fail
          refine HY.mono ?_
          rintro e w2 ⟨rfl, rfl⟩
          generalize wr.setCell ⟨b2, 0, none⟩ (.int .i64 (k1 : Nat)) = w3 at *
          go_wp2
          go_roundg (gk - 1)
          case measure => omega
          case rel => exact ⟨j + 1, i, k1, by omega, rfl, by go_num, by omega, by omega, HK2, HR2, HC2, HS2⟩
        · have HNo := cl_no b1 b2 k s t wr HCr.out hh
          have HK2 : Hid ((kp s m (ls.take (j + 1))).length = i + 1 ∧ lf s m (ls.take (j + 1)) = k) := by
            show _ ∧ _
            rw [HK1.out.1, HK1.out.2, (kp_one s t k).1, (kp_one s t k).2, if_neg hh, if_neg hh, List.length_append, HK.out.1]
            exact ⟨rfl, rfl⟩
          have HR2 : Hid (∃ cu : List Value, BkS (wr.setCell ⟨g, i, none⟩ (.string t)) g cu ∧ cu.length = c ∧ cu.take (i + 1) = (kp s m (ls.take (j + 1))).map Value.string ∧ ∀ q, j + 1 ≤ q → q < n → cu[q]? = some (.string (txt ls q))) := by
            obtain ⟨c1, c2, c3, c4⟩ := HCU.out
            refine ⟨cu.set i (.string t), c1.set i _, by rw [List.length_set]; exact c2, ?_, fun q h1 h2 => ?_⟩
            · rw [HK1.out.1, (kp_one s t k).1, if_neg hh, List.map_append, ← c3, List.take_add_one, List.getElem?_set_self (by omega), List.take_set_of_le (by omega)]; rfl
            · rw [List.getElem?_set_ne (by omega)]; exact c4 q (by omega) h2
          have HC2 : Hid (Cl (wr.setCell ⟨g, i, none⟩ (.string t)) b1 b2 s k) := HCr.out.far hg1' hg2'
          have HS2 : Hid (Stay w (wr.setCell ⟨g, i, none⟩ (.string t)) [b2, g]) := HSr.out.trans Stay.set (by simp)
          have hin : i < n := by omega
          go_wp2_with fail
          refine HNo.mono ?_
          rintro e wr ⟨rfl, rfl⟩
          go_wp2
          go_roundg (gk - 1)
          case measure => omega
          case rel => exact ⟨j + 1, i + 1, k, by omega, by go_num, by go_num, by omega, hk6, HK2, HR2, HC2, HS2⟩
      · have hjj : j = n := by omega
        subst hjj
        obtain ⟨oo, hoo, s1⟩ := slice_loS g j c i (by omega)
        have hO3 : oo = i := hoo (by omega)
        subst hO3
        have s2 := slice_hiS g j c oo (by omega)
        have HB : Hid (BkS wr g cu) := hb
        have HFt : Hid (oo + (j - oo) ≤ cu.length) := by show _ ≤ _; omega
        have HE : Hid (∀ w', BkS w' g (splice cu oo (List.replicate (j - oo) (.string ⟨#[]⟩))) → OwnS w' C (some ⟨g, 0, none⟩) oo c (kp s m ls)) := fun w' hw' => by
          refine OwnS.of_bk HCg.out.1 hw' (by omega) HCg.out.2.2 ?_ ?_
          · rw [length_splice _ _ _ (by rw [List.length_replicate]; omega)]; exact hcl
          · rw [take_splice_low _ _ _ _ (Nat.le_refl _) (by omega), hct, List.take_of_length_le (by have := HL.out; omega)]
        clear hb hcl hct hcq hoo
        go_wp2_with (refine clear_inS rfl (.tmp 38) rfl rfl cu HB.out HFt.out ?_; intro w4 HB4 HG4)
        go_ret
        exact ⟨_, _, _, rfl, HE.out w4 HB4.out, HSr.out.trans ⟨HG4.out.os, HG4.out.tape, HG4.out.output, HG4.out.size, fun k hk hn => HG4.out.block k hk (fun e => hn (by rw [Option.some.inj e]; simp))⟩ (M' := [g]) (by simp)⟩
end Go.Proofs.Ytemiajjjhhofaac
