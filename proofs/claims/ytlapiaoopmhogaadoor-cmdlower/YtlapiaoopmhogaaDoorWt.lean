/-
  The law: what is known of commands, and which requests are taken, is what the document says.
-/
import Derived.Test.YtlapiaoopmhogaaDoorAh
import Derived.Test.YtlapiaoopmhogaaDoorVh
namespace Go.Proofs.YtlapiaoopmhogaaDoor
open Go.RowKit Go.PlainAid

theorem OwnT.src {w : World} {B s : Nat} {a : Option Addr} {n cap : Nat} {cs : List Value} (h : OwnT w B s a n cap cs) : SrcT w s a n cap cs := by
  refine ⟨h.1, fun e => ?_, fun ad e j u hu => ?_⟩
  · rcases h.2 with ⟨h1, h2, h3⟩ | ⟨g, cur, tg, h1, -⟩
    · exact ⟨h2, h3⟩
    · rw [h1] at e; cases e
  · rcases h.2 with ⟨h1, h2, h3⟩ | ⟨g, cur, tg, h1, h3, h4, h5, h6, h7, h8⟩
    · rw [h1] at e; cases e
    · rw [h1] at e
      cases e
      rw [← h8, List.getElem?_take] at hu
      split at hu
      · rw [add_flat, Nat.zero_add, cell_of_row w g j cur tg (0, 0) h4]; simpa using hu
      · cases hu
theorem OwnS.toT {w : World} {B : Nat} {a : Option Addr} {n c : Nat} {ls : List ByteArray} (h : OwnS w B a n c ls) : OwnT w B 1 a n c (ls.map Value.string) := by
  refine ⟨h.1, ?_⟩
  rcases h.2 with ⟨h2, h3⟩ | ⟨g, c, cur, h1, h3, h4, h5, h6, h7, h8⟩
  · cases h2; exact .inl ⟨rfl, h3, rfl⟩
  · cases h1; exact .inr ⟨g, cur, 9, rfl, h3, h4, h5, h6, h7, h8⟩
theorem ones (ls : List ByteArray) : ∀ u ∈ ls.map Value.string, u.oneCell' = true := by
  intro u hu
  obtain ⟨s, -, rfl⟩ := List.mem_map.1 hu
  rfl

theorem append_s {w : World} {ops : Array Oper} {rest : List Oper} {o : Oper} {ac : Act} {Q : Exit → Act → World → Prop} (hwt : Region.wanted o (yielded ops ac.tmps) = true) (s x : Operand) {t e : TypeId} {sz by8 : Nat} (ho : o.op = .call { callee := .builtin .append, args := #[s, x], argTypes := #[t, t] })
    (F : Elt t e sz by8) (B : Nat) {a : Option Addr} {n cap : Nat} {cs : List Value} (hs : ac.eval s = .slice a n cap) (hown : OwnT w B sz a n cap cs) {xa : Option Addr} {m c : Nat} (news : List Value) (hx : ac.eval x = .slice xa m c) (hsrc : SrcT w sz xa m c news)
    (h1 : ∀ u ∈ news, u.oneCell' = true) (hb : (n + m) * by8 ≤ 140737488355328) (h63 : n + m ≤ maxLen) (hB : B ≤ w.heap.size)
    (h : ∀ a2 n2 c2 w2, n2 = n + m → Hid (OwnT w2 B sz a2 n2 c2 (cs ++ news)) → Hid (Below B w w2) → wpList Tryd.prog ops Q rest (ac.put o.dst (.slice a2 n2 c2)) w2) : wpList Tryd.prog ops Q (o :: rest) ac w := by
  obtain ⟨a2, c2, w2, k1, k2, k3⟩ := run_append_t w B F hown (c := c) news hsrc.len hsrc.nul hsrc.cell h1 hb h63 hB o.type
  refine wpList_step fun K hK => ?_
  rw [if_pos hwt]
  unfold Oper.wp
  simp [execOp, ho, resolve, invoke, builtin, hs, hx, k1, Result.andThen]
  exact hK _ _ (h a2 _ c2 w2 rfl k2 (hown.below k3 hB))

set_option maxRecDepth 100000 in
set_option maxHeartbeats 8000000 in
theorem tells_law (wh : Int) (wa : Option Addr) (wn wk : Nat) (ft up : Bool) (la : Option Addr) (ln lc : Nat) (ls : List ByteArray) (s : ByteArray) (w : World) (hw : RdW w wa wn) (hl : RdS w la ln ls) (hs : s.size ≤ maxLen) (hg : Laid w) :
    Calls Tryd.prog 4 #[.agg #[.int .i64 wh, .slice wa wn wk, .bool ft, .bool up], .slice la ln lc, .string s] w fun e w' => e = .returned (.bool true) ∧ Below w.heap.size w w' := by
  have hgl := lt_of_cell? hg
  have HGL : Hid (0 < w.heap.size) := hgl
  have HG : Hid (Laid w) := hg
  have HLk := fun w => Lookup_any s w hs
  have HRk := fun w => rLookup_any s w hs
  rw [fnd_both] at HRk
  have HLw := fun w => Lower_any s w hs
  have HRw := fun w => rLower_any s w hs
  obtain ⟨S, hS⟩ : ∃ x, low s = x := ⟨_, rfl⟩
  obtain ⟨bk, hbk⟩ : ∃ x, (fnd progs (low s)).isSome = x := ⟨_, rfl⟩
  obtain ⟨C, hC⟩ : ∃ x, cmOf (fnd progs (low s)) = x := ⟨_, rfl⟩
  rw [hbk, hC] at HLk HRk
  rw [hS] at HLw HRw
  have HSm := fun w => same_yes C w
  obtain ⟨nm, lo, hi, wb, gr⟩ := C
  have HLk : ∀ w, Calls Tryd.prog 9 #[.string s] w fun e w' => e = .returned (.tuple #[.agg #[.string nm, .int .i64 lo, .int .i64 hi, .bool wb, .int .i64 gr], .bool bk]) ∧ Below w.heap.size w w' := HLk
  have HRk : ∀ w, Calls Tryd.prog 15 #[.string s] w fun e w' => e = .returned (.tuple #[.agg #[.string nm, .int .i64 lo, .int .i64 hi, .bool wb, .int .i64 gr], .bool bk]) ∧ Below w.heap.size w w' := HRk
  have HSm : ∀ w, Calls Tryd.prog 10 #[.agg #[.string nm, .int .i64 lo, .int .i64 hi, .bool wb, .int .i64 gr], .agg #[.string nm, .int .i64 lo, .int .i64 hi, .bool wb, .int .i64 gr]] w fun e w' => e = .returned (.bool true) ∧ Below w.heap.size w w' := HSm
  obtain ⟨w0, hw0⟩ : ∃ w0, w.alloc (.cells #[.int .i64 wh, .slice wa wn wk, .bool ft, .bool up] 37) = w0 := ⟨_, rfl⟩
  have hb0 : Below w.heap.size w w0 := by rw [← hw0]; exact alloc_below w _
  have hl0 : w.heap.size < w0.heap.size := by rw [← hw0]; exact alloc_lt w _ _
  have HB0 : Hid (Below w.heap.size w w0) := hb0
  have HAk : Hid (∀ wx, Below w0.heap.size w0 wx → wx.cell? ⟨w.heap.size, 0, none⟩ = some (.int .i64 wh) ∧ wx.cell? ⟨w.heap.size, 1, none⟩ = some (.slice wa wn wk) ∧ wx.cell? ⟨w.heap.size, 2, none⟩ = some (.bool ft) ∧ wx.cell? ⟨w.heap.size, 3, none⟩ = some (.bool up)) := fun wx h => by
    have hh : ∀ i v, (#[Value.int .i64 wh, .slice wa wn wk, .bool ft, .bool up] : Array Value)[i]? = some v → wx.cell? ⟨w.heap.size, i, none⟩ = some v := fun i v hv => by
      rw [h.cell (p := ⟨w.heap.size, i, none⟩) hl0, ← hw0]
      exact cell_new w _ _ i v hv
    exact ⟨hh 0 _ rfl, hh 1 _ rfl, hh 2 _ rfl, hh 3 _ rfl⟩
  have HW0 : Hid (RdW w0 wa wn) := hw.keep hb0
  have HFw := Few_any la ln lc ls 12 100 w0 (hl.keep hb0) (by omega) (by omega)
  obtain ⟨fl, hfl⟩ : ∃ fl, fewL 12 100 ls = fl := ⟨_, rfl⟩
  have HFl : Hid (fl.length ≤ 12 ∧ ∀ s ∈ fl, s.size ≤ 100) := by
    show _ ∧ _
    rw [← hfl]
    exact ⟨fewL_len 12 100 ls, fun s hs => by have := fewL_size 12 100 ls (by omega) s hs; omega⟩
  rw [hfl] at HFw
  have HFw : Calls Tryd.prog 13 #[.slice la ln lc, .int .i64 12, .int .i64 100] w0 fun e w' => Below w0.heap.size w0 w' ∧ ∃ a2 n2 c2, e = .returned (.slice a2 n2 c2) ∧ OwnS w' w0.heap.size a2 n2 c2 fl := HFw
  go_enter Tryd.func4, Tryd.ntmps4
  go_upto_region 1 with fail
  try simp only [hw0]
  clear hw0 hw hl hs hg hgl hS hbk hC hfl hl0 hb0
  go_upto_region 2 with (go_at_call 13; refine HFw.mono ?_; rintro e w1 ⟨hB1, a1, n1, c1, rfl, hO1⟩; have HB1 : Hid (Below w0.heap.size w0 w1) := hB1; have HO1 : Hid (OwnS w1 w0.heap.size a1 n1 c1 fl) := hO1; clear hB1 hO1)
  obtain ⟨x0, x1, x2, x3⟩ := HAk.out _ HB1.out
  have HAr := Args_any wh wa wn wk ft up w1 (HW0.out.keep HB1.out)
  go_upto_region 3 with (go_at_call 14; refine HAr.mono ?_; rintro e w2 ⟨hB2, xa, xn, xc, xs, rfl, HX2, hxn⟩; have HB2 : Hid (Below w1.heap.size w1 w2) := hB2; clear hB2)
  clear x0 x1 x2 x3 HAr HFw
  go_upto_region 4 with (go_at_call 9; refine (HLk _).mono ?_; rintro e w3 ⟨rfl, hB3⟩)
  obtain ⟨w3c, hw3⟩ : ∃ x, w3.alloc (.cells #[.string nm, .int .i64 lo, .int .i64 hi, .bool wb, .int .i64 gr] 27) = x := ⟨_, rfl⟩
  have hV3 : VarC w3c w3.heap.size ⟨nm, lo, hi, wb, gr⟩ := by rw [← hw3]; exact ⟨_, heap_alloc_new w3 _⟩
  have hb3 : Below w3.heap.size w3 w3c := by rw [← hw3]; exact alloc_below w3 _
  have HV3 : Hid (VarC w3c w3.heap.size ⟨nm, lo, hi, wb, gr⟩) := hV3
  have HB3 : Hid (Below w2.heap.size w2 w3c) := hB3.trans (hb3.mono hB3.size)
  try simp only [hw3]
  obtain ⟨g8, hg8⟩ : ∃ x, w3.heap.size = x := ⟨_, rfl⟩
  rw [hg8] at HV3
  try simp only [hg8]
  clear hw3 hV3 hb3 hB3 hg8
  go_upto_region 5 with (go_at_call 15; refine (HRk _).mono ?_; rintro e w4 ⟨rfl, hB4⟩)
  obtain ⟨w5, hw5⟩ : ∃ x, w4.alloc (.cells #[.string nm, .int .i64 lo, .int .i64 hi, .bool wb, .int .i64 gr] 30) = x := ⟨_, rfl⟩
  have hV5 : VarC w5 w4.heap.size ⟨nm, lo, hi, wb, gr⟩ := by rw [← hw5]; exact ⟨_, heap_alloc_new w4 _⟩
  have hb5 : Below w4.heap.size w4 w5 := by rw [← hw5]; exact alloc_below w4 _
  have h35 : Below w3c.heap.size w3c w5 := hB4.trans (hb5.mono hB4.size)
  obtain ⟨g10, hg10⟩ : ∃ x, w4.heap.size = x := ⟨_, rfl⟩
  rw [hg10] at hV5
  try simp only [hw5, hg10]
  have h25 : Below w2.heap.size w2 w5 := HB3.out.trans (h35.mono HB3.out.size)
  have h15 : Below w1.heap.size w1 w5 := HB2.out.trans (h25.mono HB2.out.size)
  have h05 : Below w0.heap.size w0 w5 := HB1.out.trans (h15.mono HB1.out.size)
  have hw5w : Below w.heap.size w w5 := HB0.out.trans (h05.mono HB0.out.size)
  have HZ5 : Hid (w.heap.size ≤ w5.heap.size) := hw5w.size
  have HX : Hid (∀ wx, Below w5.heap.size w5 wx → Laid wx ∧ Below w.heap.size w wx ∧ RdS wx a1 n1 fl ∧ RdS wx xa xn xs ∧ VarC wx g8 ⟨nm, lo, hi, wb, gr⟩ ∧ VarC wx g10 ⟨nm, lo, hi, wb, gr⟩ ∧ SrcT wx 1 xa xn xc (xs.map Value.string) ∧ SrcT wx 1 a1 n1 c1 (fl.map Value.string)) := fun wx h => by
    have hwx := hw5w.trans (h.mono hw5w.size)
    have h1x := h15.trans (h.mono h15.size)
    have h2x := h25.trans (h.mono h25.size)
    have h3x := h35.trans (h.mono h35.size)
    exact ⟨HG.out.keep hwx HGL.out, hwx, HO1.out.rd.keep h1x, HX2.out.rd.keep h2x, HV3.out.keep h3x HV3.out.lt, hV5.keep h hV5.lt, HX2.out.own.src.keep h2x, HO1.out.toT.src.keep h1x⟩
  have HXs : Hid (xn ≤ 300 ∧ 1 ≤ xn ∧ ∀ s ∈ xs, s.size ≤ 100) := ⟨hxn, HX2.out.pos, HX2.out.sz⟩
  have hn1 : n1 ≤ 12 := by rw [← HO1.out.len]; exact HFl.out.1
  clear hw5 hg10 hV5 hb5 h35 h25 h15 h05 hw5w hB4 HV3 HB3 HB2 HX2 HO1 HB1 HAk HB0 HW0 hxn
  have hbb : (bk == bk) = true := beq_self_eq_true _
  have hSS : (S.toList == S.toList) = true := beq_self_eq_true _
  have HC1 := fun w h hg => checks_any a1 n1 c1 fl w h (fun s hs => by have := HFl.out.2 s hs; unfold maxLen; omega) hg
  have HC2 := fun w h hg => checks_any xa xn xc xs w h (fun s hs => by have := HXs.out.2.2 s hs; unfold maxLen; omega) hg
  have HC15 := HC1 w5 (HX.out w5 (Below.refl _ _)).2.2.1 (HX.out w5 (Below.refl _ _)).1
  clear HC1
  have hb1 : (0 + xn) * 16 ≤ 140737488355328 := by have := HXs.out.1; omega
  have hm1 : 0 + xn ≤ maxLen := by have := HXs.out.1; unfold maxLen; omega
  have hb2 : (xn + n1) * 16 ≤ 140737488355328 := by have := HXs.out.1; omega
  have hm2 : xn + n1 ≤ maxLen := by have := HXs.out.1; unfold maxLen; omega
  go_wp2_with (first
    | (go_at_call 11; refine (checks_any _ _ _ (xs ++ fl) _ HL9.out.rd (fun s hs => by have := HL9.out.sz s hs; unfold maxLen; omega) (HX.out _ HB9.out).1).mono ?_; rintro e w10 ⟨rfl, hB10⟩; have HB10 : Hid (Below w5.heap.size w5 w10) := HB9.out.trans (hB10.mono HB9.out.size); clear hB10; obtain ⟨p0, p1, p2, p3, p4⟩ := (HX.out _ HB10.out).2.2.2.2.1.cells; obtain ⟨q0, q1, q2, q3, q4⟩ := (HX.out _ HB10.out).2.2.2.2.2.1.cells; simp only at p0 p1 p2 p3 p4 q0 q1 q2 q3 q4)
    | (go_at_call 11; refine (HC2 _ (HX.out _ HB6.out).2.2.2.1 (HX.out _ HB6.out).1).mono ?_; rintro e w7 ⟨rfl, hB7⟩; have HB7 : Hid (Below w5.heap.size w5 w7) := HB6.out.trans (hB7.mono HB6.out.size); have HB7e : Hid (Below w5.heap.size w5 (w7.alloc (.cells #[] 9))) := HB7.out.trans ((alloc_below w7 _).mono HB7.out.size); have HO7 : Hid (OwnT (w7.alloc (.cells #[] 9)) w5.heap.size 1 (some ⟨w7.heap.size, 0, none⟩) 0 0 []) := OwnT.empty (heap_alloc_new w7 _) HB7.out.size; clear hB7)
    | (go_at_call 11; refine HC15.mono ?_; rintro e w6 ⟨rfl, hB6⟩; have HB6 : Hid (Below w5.heap.size w5 w6) := hB6; clear hB6)
    | (at_builtin; refine append_s rfl (.tmp 35) (.tmp 36) rfl eltS w5.heap.size rfl HO8.out (fl.map Value.string) rfl (HX.out _ HB8.out).2.2.2.2.2.2.2 (ones fl) hb2 hm2 HB8.out.size ?_; intro a9 n9 c9 w9 hn9 HO9 HB9; subst hn9; replace HB9 : Hid (Below w5.heap.size w5 w9) := HB8.out.trans HB9.out; have HL9 : Hid (Lst w9 w5.heap.size a9 (xn + n1) c9 (xs ++ fl)) := ⟨by rw [List.map_append]; exact HO9.out, fun s hs => (List.mem_append.1 hs).elim (fun h => HXs.out.2.2 s h) (fun h => HFl.out.2 s h), by have := HXs.out.2.1; omega⟩)
    | (at_builtin; refine append_s rfl (.tmp 33) (.tmp 34) rfl eltS w5.heap.size rfl HO7.out (xs.map Value.string) rfl (HX.out _ HB7e.out).2.2.2.2.2.2.1 (ones xs) hb1 hm1 HB7e.out.size ?_; intro a8 n8 c8 w8 hn8 HO8 HB8; rw [Nat.zero_add] at hn8; replace hn8 := hn8.symm; subst hn8; replace HO8 : Hid (OwnT w8 w5.heap.size 1 a8 xn c8 (xs.map Value.string)) := HO8; replace HB8 : Hid (Below w5.heap.size w5 w8) := HB7e.out.trans HB8.out)
    | (go_at_call 10; refine (HSm _).mono ?_; rintro e w11 ⟨rfl, hB11⟩; have HB11 : Hid (Below w5.heap.size w5 w11) := HB10.out.trans (hB11.mono HB10.out.size); clear hB11)
    | (go_at_call 16; refine (HLw _).mono ?_; rintro e w12 ⟨rfl, hB12⟩; have HB12 : Hid (Below w5.heap.size w5 w12) := HB11.out.trans (hB12.mono HB11.out.size); clear hB12)
    | (go_at_call 17; refine (HRw _).mono ?_; rintro e w13 ⟨rfl, hB13⟩; have HB13 : Hid (Below w5.heap.size w5 w13) := HB12.out.trans (hB13.mono HB12.out.size); clear hB13)
    | (go_at_call 12; refine (known_any _ (HX.out _ HB13.out).1).mono ?_; rintro e w14 ⟨rfl, hB14⟩; have HB14 : Hid (Below w5.heap.size w5 w14) := HB13.out.trans (hB14.mono HB13.out.size); clear hB14))
  go_ret
  exact ⟨rfl, (HX.out _ HB14.out).2.1⟩
end Go.Proofs.YtlapiaoopmhogaaDoor
