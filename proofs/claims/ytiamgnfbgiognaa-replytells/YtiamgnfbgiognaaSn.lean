/-
  ReplyUnlike.
-/
import Derived.Test.YtiamgnfbgiognaaSm
namespace Go.Proofs.Ytiamgnfbgiognaa
open Go.RowKit Go.PlainAid

theorem unlike_in {k : Int} (h : hasL k = true) (s : ByteArray) (n : Int) (l : List RT) (t : RT) : alikeT (.mk k s n l) (.mk k s n (l ++ [t])) = false ∧ sameT (.mk k s n l) (.mk k s n (l ++ [t])) = false := by
  constructor
  · cases hb : alikeT (.mk k s n l) (.mk k s n (l ++ [t])) with
    | false => rfl
    | true =>
      unfold alikeT at hb
      have h1 := cmpT_zero.1 (of_decide_eq_true hb)
      rw [srt_mk, srt_mk] at h1
      unfold mean at h1
      injection h1 with _ _ _ h1
      rw [if_pos h, if_pos h] at h1
      have := congrArg List.length h1
      rw [ordd_len, ordd_len] at this
      simp at this
  · cases hb : sameT (.mk k s n l) (.mk k s n (l ++ [t])) with
    | false => rfl
    | true =>
      unfold sameT at hb
      have h1 := cmpT_zero.1 (of_decide_eq_true hb)
      rw [can_mk, can_mk] at h1
      unfold mean at h1
      injection h1 with _ _ _ h1
      rw [if_pos h, if_pos h] at h1
      have := congrArg List.length h1
      simp at this
theorem alike_out {k : Int} (h : hasL k = false) (s : ByteArray) (n : Int) (l l' : List RT) : alikeT (.mk k s n l) (.mk k s n l') = true := by
  have e : srt (.mk k s n l) = srt (.mk k s n l') := by
    rw [srt_mk, srt_mk]; unfold mean; simp [h]
  unfold alikeT
  rw [e, cmpT_self]; rfl
/-- append(x, y...) where y is nothing. -/
theorem append_0 {w : World} {ops : Array Oper} {rest : List Oper} {o : Oper} {ac : Act} {Q : Exit → Act → World → Prop} (hgd : o.guard = none) (s x : Operand) (ho : o.op = .call { callee := .builtin .append, args := #[s, x], argTypes := #[23, 23] })
    (B : Nat) {a : Option Addr} {n cap : Nat} {cs : List Value} (hs : ac.eval s = .slice a n cap) (hown : OwnR w B 25 4 a n cap cs) (hx : ac.eval x = .slice none 0 0) (h : wpList Try.prog ops Q rest (ac.put o.dst (.slice a n cap)) w) : wpList Try.prog ops Q (o :: rest) ac w := by
  obtain ⟨i0, hi, hz0, hz1, hz2⟩ := info_parts Try.infoRR
  exact wpList_append_own_none hgd s x 23 ho B 25 i0 4 Try.underlying23 hi (.slice a n cap) n cs hs hown hx h
set_option maxRecDepth 100000 in
set_option maxHeartbeats 4000000 in
theorem unlike_any (a : Option Addr) (n c : Nat) (z : Int) (w : World) (hN : NdR w a n) : Calls Try.prog 5 #[.slice a n c, .int .i64 z] w fun r w' => r = .returned (.bool true) ∧ Below w.heap.size w w' := by
  have HM := made_all 6 a n c 0 0 w (by omega) hN (Nat.zero_le _)
  have HK := known_any
  clear hN
  go_enter Try.func5, Try.ntmps5
  go_wp2_with fail
  refine HM.mono ?_
  rintro e w1 ⟨hb, X, tX, at3, rfl, hat3, hXm, hXn, hvX⟩
  have HB1 : Hid _ := hb
  obtain ⟨k, s, x, xa, m, xc⟩ := X
  simp only at hXm hXn
  obtain ⟨tk, ts, tn, l⟩ := tX
  have e1 : k = tk := hvX.k
  have e2 : s = ts := hvX.s
  have e3 : x = tn := hvX.n
  subst e1 e2 e3
  obtain ⟨es, hrd, hm12, hvs⟩ := Hd.ex (d := 5) hvX.lo.l
  simp only at hrd
  have HX1 : Hid (VL w1 6 ⟨k, s, x, xa, m, xc⟩ (.mk k s x l)) := hvX.lo
  have HRd1 : Hid _ := hrd
  have HVs1 : Hid _ := hvs
  have HXn : Hid _ := hXn
  simp only [El.v]
  clear hb hvX hrd hvs hXn HM
  obtain ⟨w2, hw2⟩ : ∃ w2, w1.alloc (.cells #[.int .i64 k, .string s, .int .i64 x, .slice xa m xc] 25) = w2 := ⟨_, rfl⟩
  have hb2 : Below w1.heap.size w1 w2 := by rw [← hw2]; exact alloc_below w1 _
  have hA2 : BR w2 w1.heap.size k s x xa m xc := by rw [← hw2]; exact BR.new w1 _ _ _ _ _ _
  obtain ⟨w3, hw3⟩ : ∃ w3, w2.alloc (.cells #[.int .i64 k, .string s, .int .i64 x, .slice xa m xc] 25) = w3 := ⟨_, rfl⟩
  have hb3 : Below w2.heap.size w2 w3 := by rw [← hw3]; exact alloc_below w2 _
  have hC3 : BR w3 w2.heap.size k s x xa m xc := by rw [← hw3]; exact BR.new w2 _ _ _ _ _ _
  obtain ⟨w4, hw4⟩ : ∃ w4, w3.alloc (.cells #[] 25) = w4 := ⟨_, rfl⟩
  have hb4 : Below w3.heap.size w3 w4 := by rw [← hw4]; exact alloc_below w3 _
  have hb14 : Below w1.heap.size w1 w4 := (hb2.trans (hb3.mono hb2.size)).trans (hb4.mono (Nat.le_trans hb2.size hb3.size))
  have HA4 : Hid (BR w4 w1.heap.size k s x xa m xc) := (hA2.keep hb3).keep hb4
  have HC4 : Hid (BR w4 w2.heap.size k s x xa m xc) := hC3.keep hb4
  have HO4 : Hid (OwnE w4 w3.heap.size (some ⟨w3.heap.size, 0, none⟩) 0 0 []) := by
    rw [← hw4]; exact ⟨rfl, .inr ⟨w3.heap.size, 0, #[], rfl, Nat.le_refl _, heap_alloc_new w3 _, Nat.le_refl _, by decide, rfl, rfl⟩⟩
  have HB4 := step_below HB1 hb14
  have HRd4 : Hid _ := HRd1.out.keep (w' := w4) (fun g hg _ => hb14.block g hg)
  have HVs4 : Hid _ := HVs1.out.kp hb14
  have HX4 : Hid (Vl w4 (fun g => g < w1.heap.size) 6 ⟨k, s, x, xa, m, xc⟩ (.mk k s x l)) := Vl.keep HX1.out (fun g hg _ => hb14.block g hg)
  have HS34 : Hid (w3.heap.size < w4.heap.size ∧ w1.heap.size < w2.heap.size ∧ w2.heap.size < w3.heap.size) := ⟨by rw [← hw4]; exact alloc_lt w3 _ _, hA2.lt, hC3.lt⟩
  have q0 := hA2.c0
  have q1 := hA2.c1
  have q2 := hA2.c2
  have q3 := hA2.c3
  have t3 := HA4.out.c3
  clear hb2 hb3 hb4 hb14 hA2 hC3 HX1 HRd1 HVs1
  go_upto_region 3 with fail
  go_cut [14, 15, 16, 17, 18, 19, 20, 21, 22] from 14 to 22 (fun u14 u15 u16 u17 u18 u19 u20 u21 u22 wx => ∃ wy ya yc, wy = wx ∧ Hid (BR wy w1.heap.size k s x xa m xc) ∧ Hid (BR wy w2.heap.size k s x ya (m + 1) yc) ∧ Hid (Below w.heap.size w wy) ∧ Hid (VL wy 6 ⟨k, s, x, xa, m, xc⟩ (.mk k s x l)) ∧ Hid (VL wy 6 ⟨k, s, x, ya, m + 1, yc⟩ (.mk k s x (l ++ [.mk 3 ⟨#[]⟩ z []]))))
  case first =>
    have HFin : Hid (∀ (w5 : World) (a5 : Option Addr) (c5 : Nat) (w6 w7 w8 : World) (a8 : Option Addr) (c8 : Nat), Stay w4 w5 [w3.heap.size] → OwnE w5 w3.heap.size a5 m c5 es → w5.alloc (.cells #[.int .i64 3, .string ⟨#[]⟩, .int .i64 z, .slice none 0 0] 25) = w6 → OwnR w7 w3.heap.size 25 4 a8 (m + 1) c8 (rcells es ++ rcells [⟨3, ⟨#[]⟩, z, none, 0, 0⟩]) → w6.grownBy w7 (a5.map (·.block)) → w7.setCell ⟨w2.heap.size, 3, none⟩ (.slice a8 (m + 1) c8) = w8 → BR w7 w2.heap.size k s x xa m xc ∧ Hid (BR w8 w1.heap.size k s x xa m xc) ∧ Hid (BR w8 w2.heap.size k s x a8 (m + 1) c8) ∧ Hid (Below w.heap.size w w8) ∧ Hid (VL w8 6 ⟨k, s, x, xa, m, xc⟩ (.mk k s x l)) ∧ Hid (VL w8 6 ⟨k, s, x, a8, m + 1, c8⟩ (.mk k s x (l ++ [.mk 3 ⟨#[]⟩ z []])))) := by
      intro w5 a5 c5 w6 w7 w8 a8 c8 hs hO5 hw6 hO7 hg hw8
      have hS := HS34.out
      have hb6 : Below w5.heap.size w5 w6 := by rw [← hw6]; exact alloc_below w5 _
      have hst : ∀ g, g < w3.heap.size → w7.heap[g]? = w4.heap[g]? := fun g hg' => by
        have h1 : g < w4.heap.size := by omega
        have h2 : g < w5.heap.size := Nat.lt_of_lt_of_le h1 hs.size
        have h3 : g < w6.heap.size := Nat.lt_of_lt_of_le h2 hb6.size
        rw [hg.block g h3 (fun e => by have := (OwnR.lt hO5 e.symm).1; omega), hb6.block g h2, hs.block g h1 (by simp; omega)]
      have hA7 : BR w7 w1.heap.size k s x xa m xc := HA4.out.kept (hst _ (by omega))
      have hC7 : BR w7 w2.heap.size k s x xa m xc := HC4.out.kept (hst _ (by omega))
      have hs8 : Stay w7 w8 [w2.heap.size] := by rw [← hw8]; exact Stay.set
      have hB5 : Below w.heap.size w w5 := HB4.out.trans (hs.below (fun i hi => by have := HB1.out.size; simp at hi; omega) HB4.out.size)
      have hB6 : Below w.heap.size w w6 := hB5.trans (hb6.mono hB5.size)
      have hsz : w3.heap.size ≤ w6.heap.size := by have := hs.size; have := hb6.size; omega
      have hB7 : Below w.heap.size w w7 := hB6.trans ((OwnR.below (OwnR.keep hO5 hb6) hg hsz).mono (by have := HB1.out.size; omega))
      have hw48 : ∀ g, g < w1.heap.size → w8.heap[g]? = w4.heap[g]? := fun g hg' => by
        rw [hs8.block g (Nat.lt_of_lt_of_le (show g < w6.heap.size by omega) hg.size) (by simp; omega)]
        exact hst g (by omega)
      have hO8 : OwnE w8 w3.heap.size a8 (m + 1) c8 (es ++ [⟨3, ⟨#[]⟩, z, none, 0, 0⟩]) := by
        rw [← rcells_append] at hO7
        exact OwnR.kept hO7 (fun g hg' => hs8.block g (OwnR.lt hO7 hg').2.1 (by have := (OwnR.lt hO7 hg').1; simp; omega))
      have hV8 : Vls w8 (fun g => g < w1.heap.size) 5 es l := HVs4.out.keep (fun g _ hf => hw48 g hf)
      refine ⟨hC7, hA7.stay hs8 (by simp; omega), by rw [← hw8]; exact hC7.put3 _ _ _, hB7.trans (hs8.below (fun i hi => by have := HB1.out.size; simp at hi; omega) hB7.size), ?_, ?_⟩
      · exact (Vl.keep HX4.out (fun g _ hf => hw48 g hf)).lo
      · refine ⟨rfl, rfl, rfl, Hd.of (d := 5) (OwnE.rdA hO8 (fun g hg' => (OwnR.lt hO8 hg').2.1)) (show m + 1 ≤ 12 by omega) ?_⟩
        exact (hV8.append (Vls.one (Vl.leaf w8 _ 5 3 ⟨#[]⟩ z))).mono (fun g hl _ => hl)
    have u3 := HC4.out.c3
    by_cases hm : m = 0
    · obtain ⟨rfl, rfl⟩ := HXn.out hm
      have hes : es = [] := List.length_eq_zero_iff.1 (by have := HRd4.out.len; omega)
      subst hm hes
      obtain ⟨w6, hw6⟩ : ∃ w6, w4.alloc (.cells #[.int .i64 3, .string ⟨#[]⟩, .int .i64 z, .slice none 0 0] 25) = w6 := ⟨_, rfl⟩
      have hb6 : Below w4.heap.size w4 w6 := by rw [← hw6]; exact alloc_below w4 _
      have HO6 : Hid (OwnE w6 w3.heap.size (some ⟨w3.heap.size, 0, none⟩) 0 0 []) := OwnR.keep HO4.out hb6
      have HI6 : Hid (BR w6 w4.heap.size 3 ⟨#[]⟩ z none 0 0) := by rw [← hw6]; exact BR.new w4 _ _ _ _ _ _
      have HS6 : Hid (w3.heap.size ≤ w6.heap.size) := by have := HS34.out.1; have := hb6.size; show _ ≤ _; omega
      have HNw : Hid (∀ (j : Nat) (v : Value), (rcells [⟨3, ⟨#[]⟩, z, none, 0, 0⟩])[j]? = some v → w6.cell? ((⟨w4.heap.size, 0, none⟩ : Addr).add j) = some v) := fun j v hv => by
        rw [add_flat, Nat.zero_add]
        match j with
        | 0 => rw [HI6.out.c0]; exact hv
        | 1 => rw [HI6.out.c1]; exact hv
        | 2 => rw [HI6.out.c2]; exact hv
        | 3 => rw [HI6.out.c3]; exact hv
        | j + 4 => simp [rcells, El.cs] at hv
      have HFin2 : Hid _ := fun w7 w8 a8 c8 => HFin.out w4 (some ⟨w3.heap.size, 0, none⟩) 0 w6 w7 w8 a8 c8 (Stay.of_below (Below.refl _ _) _) HO4.out hw6
      clear hb6 HFin
      go_wp2_with (first
        | (at_builtin; refine append_0 rfl (.tmp 14) (.tmp 16) rfl w3.heap.size rfl HO4.out rfl ?_)
        | (at_builtin; refine append_r rfl (.tmp 17) (.tmp 20) rfl eltR w3.heap.size rfl HO6.out (rcells [⟨3, ⟨#[]⟩, z, none, 0, 0⟩]) rfl rfl HNw.out (rcells_one _) (by decide) (by decide) (by decide) HS6.out ?_; intro a8 n8 c8 w7 hn8 HO8 HG8 HGo8; subst hn8; have HF8 := HFin2.out w7 _ a8 c8 HO8.out HG8.out rfl; have v3 := HF8.1.c3; have vf := HF8.1.fz 3; have HF9 : Hid _ := HF8.2; clear HF8))
      go_meet
      exact ⟨_, a8, c8, rfl, HF9.out⟩
    · obtain ⟨g0, o0, hxa⟩ : ∃ g0 o0, xa = some ⟨g0, o0, none⟩ := by
        obtain ⟨e, he⟩ : ∃ e, es[0]? = some e := ⟨_, List.getElem?_eq_getElem (by have := HRd4.out.len; omega)⟩
        obtain ⟨g, o, h1, -⟩ := HRd4.out.cell 0 e he
        exact ⟨g, o, h1⟩
      subst hxa
      have HNw1 : Hid (∀ (j : Nat) (v : Value), (rcells es)[j]? = some v → w4.cell? ((⟨g0, o0, none⟩ : Addr).add j) = some v) := fun j v hv => by
        rw [add_flat]; exact HRd4.out.flat j v hv
      have HLe : Hid ((rcells es).length = m * 4) := by show _ = _; rw [rcells_len, HRd4.out.len]
      have hm0 : 0 < m := by omega
      have HS4 : Hid (w3.heap.size ≤ w4.heap.size) := Nat.le_of_lt HS34.out.1
      have HAll : Hid (∀ (w5 : World) (a5 : Option Addr) (c5 : Nat) (w6 : World), OwnR w5 w3.heap.size 25 4 a5 m c5 ([] ++ rcells es) → w4.grownBy w5 (some w3.heap.size) → w5.alloc (.cells #[.int .i64 3, .string ⟨#[]⟩, .int .i64 z, .slice none 0 0] 25) = w6 → Hid (OwnE w6 w3.heap.size a5 m c5 es) ∧ Hid (w3.heap.size ≤ w6.heap.size) ∧ Hid (∀ (j : Nat) (v : Value), (rcells [⟨3, ⟨#[]⟩, z, none, 0, 0⟩])[j]? = some v → w6.cell? ((⟨w5.heap.size, 0, none⟩ : Addr).add j) = some v) ∧ Hid (∀ w7 w8 a8 c8, OwnR w7 w3.heap.size 25 4 a8 (m + 1) c8 (rcells es ++ rcells [⟨3, ⟨#[]⟩, z, none, 0, 0⟩]) → w6.grownBy w7 (a5.map (·.block)) → w7.setCell ⟨w2.heap.size, 3, none⟩ (.slice a8 (m + 1) c8) = w8 → BR w7 w2.heap.size k s x (some ⟨g0, o0, none⟩) m xc ∧ Hid (BR w8 w1.heap.size k s x (some ⟨g0, o0, none⟩) m xc) ∧ Hid (BR w8 w2.heap.size k s x a8 (m + 1) c8) ∧ Hid (Below w.heap.size w w8) ∧ Hid (VL w8 6 ⟨k, s, x, some ⟨g0, o0, none⟩, m, xc⟩ (.mk k s x l)) ∧ Hid (VL w8 6 ⟨k, s, x, a8, m + 1, c8⟩ (.mk k s x (l ++ [.mk 3 ⟨#[]⟩ z []]))))) := fun w5 a5 c5 w6 hO hg hw6 => by
        have hO5 : OwnE w5 w3.heap.size a5 m c5 es := hO
        have hb6 : Below w5.heap.size w5 w6 := by rw [← hw6]; exact alloc_below w5 _
        have hI : BR w6 w5.heap.size 3 ⟨#[]⟩ z none 0 0 := by rw [← hw6]; exact BR.new w5 _ _ _ _ _ _
        refine ⟨OwnR.keep hO5 hb6, Nat.le_trans HS4.out (Nat.le_trans hg.size hb6.size), fun j v hv => ?_, fun w7 w8 a8 c8 => HFin.out w5 a5 c5 w6 w7 w8 a8 c8 ⟨hg.os, hg.tape, hg.output, hg.size, fun g hl hn => hg.block g hl (fun e => hn (by cases e; simp))⟩ hO5 hw6⟩
        rw [add_flat, Nat.zero_add]
        match j with
        | 0 => rw [hI.c0]; exact hv
        | 1 => rw [hI.c1]; exact hv
        | 2 => rw [hI.c2]; exact hv
        | 3 => rw [hI.c3]; exact hv
        | j + 4 => simp [rcells, El.cs] at hv
      clear HFin
      go_wp2_with (first
        | (at_builtin; refine append_r rfl (.tmp 17) (.tmp 20) rfl eltR w3.heap.size rfl HO6.out (rcells [⟨3, ⟨#[]⟩, z, none, 0, 0⟩]) rfl rfl HNw.out (rcells_one _) (by decide) (by omega) (by unfold maxLen; omega) HS6.out ?_; intro a8 n8 c8 w7 hn8 HO8 HG8 HGo8; subst hn8; have HF8 := HFin2.out w7 _ a8 c8 HO8.out HG8.out rfl; have v3 := HF8.1.c3; have vf := HF8.1.fz 3; have HF9 : Hid _ := HF8.2; clear HF8)
        | (at_builtin; refine append_r rfl (.tmp 14) (.tmp 16) rfl eltR w3.heap.size rfl HO4.out (rcells es) rfl HLe.out HNw1.out (rcells_one _) hm0 (by omega) (by unfold maxLen; omega) HS4.out ?_; intro a5 n5 c5 w5 hn5 HO5 HG5 HGo5; (obtain rfl : n5 = m := by omega); clear hn5; obtain ⟨w6, hw6⟩ : ∃ w6, w5.alloc (.cells #[.int .i64 3, .string ⟨#[]⟩, .int .i64 z, .slice none 0 0] 25) = w6 := ⟨_, rfl⟩; obtain ⟨HO6, HS6, HNw, HFin2⟩ := HAll.out w5 a5 c5 w6 HO5.out HG5.out hw6))
      go_meet
      exact ⟨_, a8, c8, rfl, HF9.out⟩
  case rest =>
  obtain ⟨wy, ya, yc, rfl, HA, HC, HB, HX, HY⟩ := hcut
  clear HA4 HC4 HO4 HB4 HRd4 HVs4 HX4 hw2 hw3 hw4 q0 q1 q2 q3 t3 HB1 HS34 HXn
  have HAl := Alike_any 6 _ _ _ _ wy HX.out HY.out
  simp only [El.v] at HAl
  have q0 := HA.out.c0
  have q1 := HA.out.c1
  have q2 := HA.out.c2
  have q3 := HA.out.c3
  have r0 := HC.out.c0
  have r1 := HC.out.c1
  have r2 := HC.out.c2
  have r3 := HC.out.c3
  by_cases hin : k < 7 ∨ k > 9
  · rw [alike_out (by unfold hasL; exact decide_eq_false (by omega))] at HAl
    by_cases h7 : k < 7
    · go_wp2_with fail
      refine HAl.mono ?_
      rintro e w5 ⟨hb, rfl⟩
      have HB5 := step_below HB hb
      clear hb HAl
      go_wp2_with fail
      refine (HK _).mono ?_
      rintro e w6 ⟨hb, rfl⟩
      have HB6 := step_below HB5 hb
      clear hb
      go_wp2
      go_ret
      exact ⟨rfl, HB6.out⟩
    · have h9 : k > 9 := by omega
      go_wp2_with fail
      refine HAl.mono ?_
      rintro e w5 ⟨hb, rfl⟩
      have HB5 := step_below HB hb
      clear hb HAl
      go_wp2_with fail
      refine (HK _).mono ?_
      rintro e w6 ⟨hb, rfl⟩
      have HB6 := step_below HB5 hb
      clear hb
      go_wp2
      go_ret
      exact ⟨rfl, HB6.out⟩
  · have hk : hasL k = true := by unfold hasL; exact decide_eq_true (by omega)
    have h7 : ¬ k < 7 := by omega
    have h9 : ¬ k > 9 := by omega
    have HUn : Hid _ := unlike_in hk s x l (.mk 3 ⟨#[]⟩ z [])
    rw [HUn.out.1] at HAl
    clear hin
    go_wp2_with fail
    refine HAl.mono ?_
    rintro e w5 ⟨hb, rfl⟩
    have HB5 := step_below HB hb
    have HSm := Same_all 6 _ _ _ _ w5 (HX.out.kp hb).lo (HY.out.kp hb).lo
    rw [HUn.out.2] at HSm
    simp only [El.v] at HSm
    clear q0 q1 q2 q3 r0 r1 r2 r3
    have q0 := (HA.out.keep hb).c0
    have q1 := (HA.out.keep hb).c1
    have q2 := (HA.out.keep hb).c2
    have q3 := (HA.out.keep hb).c3
    have r0 := (HC.out.keep hb).c0
    have r1 := (HC.out.keep hb).c1
    have r2 := (HC.out.keep hb).c2
    have r3 := (HC.out.keep hb).c3
    clear hb HAl
    go_wp2_with fail
    refine HSm.mono ?_
    rintro e w6 ⟨hb, rfl⟩
    have HB6 := step_below HB5 hb
    clear hb HSm q0 q1 q2 q3 r0 r1 r2 r3
    go_wp2_with fail
    refine (HK _).mono ?_
    rintro e w7 ⟨hb, rfl⟩
    have HB7 := step_below HB6 hb
    clear hb
    go_wp2
    go_ret
    exact ⟨rfl, HB7.out⟩
end Go.Proofs.Ytiamgnfbgiognaa
