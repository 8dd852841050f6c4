/-
  slices.Replace at []byte: the row with v in the place of the bytes from i to j.
-/
import Derived.Test.YtemiajjjhhofaabDel
namespace Go.Proofs.Ytemiajjjhhofaab
open Go.RowKit Go.PlainAid

theorem Bk.drewN {w : World} {g : Nat} {cur : List Value} (h : Bk w g cur) (q : Nat) : Bk (w.drewN q) g cur := h.keep (below_grown (below_drewN w q) none) (by simp)
theorem grown_drewN (w : World) (q : Nat) (row : Option Nat) : w.grownBy (w.drewN q) row := below_grown (below_drewN w q) row

theorem rep_place1 (cur R D : List Value) (i k t : Nat) (hk : i + R.length = k) (ht : k + D.length = t) (hc : t ≤ cur.length) : (splice (splice cur i R) k D).take t = cur.take i ++ (R ++ D) := by
  subst hk; subst ht
  have h1 : (splice cur i R).length = cur.length := length_splice _ _ _ (by omega)
  rw [take_splice_at _ _ _ (by omega), take_splice_at _ _ _ (by omega), List.append_assoc]
theorem rep_place2 (cur R D : List Value) (i k t : Nat) (hk : i + R.length = k) (ht : k + D.length = t) (hc : t ≤ cur.length) : (splice (splice cur k D) i R).take t = cur.take i ++ (R ++ D) := by
  subst hk; subst ht
  have h1 : (splice cur (i + R.length) D).length = cur.length := length_splice _ _ _ (by omega)
  have h2 : splice (splice cur (i + R.length) D) i R = cur.take i ++ (R ++ (D ++ cur.drop (i + R.length + D.length))) := by
    rw [show splice (splice cur (i + R.length) D) i R = (splice cur (i + R.length) D).take i ++ (R ++ (splice cur (i + R.length) D).drop (i + R.length)) from rfl, take_splice_low _ _ _ _ (by omega) (by omega)]
    congr 2
    unfold splice
    rw [List.drop_append_of_le_length (by rw [List.length_take]; omega), List.drop_eq_nil_of_le (by rw [List.length_take]; omega), List.nil_append]
  rw [h2, ← List.append_assoc, ← List.append_assoc, List.take_append_of_le_length (by simp only [List.length_append, List.length_take]; omega), List.take_of_length_le (by simp only [List.length_append, List.length_take]; omega), List.append_assoc]

set_option maxRecDepth 100000 in
set_option maxHeartbeats 4000000 in
theorem replace_none (B C : Nat) (a : Option Addr) (n c : Nat) (l : List UInt8) (a2 : Option Addr) (m c2 : Nat) (r : List UInt8) (i : Nat) (w : World) (hO : Own w B a n c l) (hV : Own w C a2 m c2 r) (hC : ∀ x, a = some x → x.block < C) (hi : i ≤ n) (hb : n + m ≤ 140737488355328) (hB : B ≤ w.heap.size) :
    Calls Try.prog 65 #[.slice a n c, .int .i64 i, .int .i64 i, .slice a2 m c2] w fun e w' => Turned w B a (l.take i ++ (r ++ l.drop i)) e w' := by
  obtain ⟨a3, c3, hsl, -⟩ := hO.rd.slice_lh i i (Nat.le_refl _) hi
  have HI := Insert_sl B C a n c l a2 m c2 r i w hO hV hC hi hb hB
  clear hO hV
  go_enter Try.func65, Try.ntmps65
  go_wp2_with fail
  refine HI.mono ?_
  rintro e w1 ⟨a4, n4, c4, rfl, hO4, hG4, hW4⟩
  have HW4 : Hid (Went w a a4) := hW4
  have HO4 : Hid (Own w1 B a4 n4 c4 (l.take i ++ (r ++ l.drop i))) := hO4
  have HG4 : Hid (w.grownBy w1 (a.map (·.block))) := hG4
  clear hO4 hG4 hW4
  go_wp2
  go_ret
  exact ⟨_, _, _, rfl, HO4.out, HG4.out, HW4.out⟩

set_option maxRecDepth 100000 in
set_option maxHeartbeats 4000000 in
/-- To the end, by what is not shorter. -/
theorem replace_end (B : Nat) (g n c : Nat) (l : List UInt8) (h m c2 : Nat) (r : List UInt8) (i : Nat) (w : World) (cur : List Value) (hBg : B ≤ g) (hBw : B ≤ w.heap.size) (hg : Bk w g cur) (hV : Rd w (some ⟨h, 0, none⟩) m c2 r) (hn : n ≤ c) (hcm : c ≤ maxLen) (hcl : cur.length = c) (ht : cur.take n = cells l)
    (hl : l.length = n) (hi : i < n) (hm : n ≤ i + m) (hb : n + m ≤ 140737488355328) :
    Calls Try.prog 65 #[.slice (some ⟨g, 0, none⟩) n c, .int .i64 i, .int .i64 n, .slice (some ⟨h, 0, none⟩) m c2] w fun e w' => Turned w B (some ⟨g, 0, none⟩) (l.take i ++ (r ++ l.drop n)) e w' := by
  have hcm' := hcm
  unfold maxLen at hcm'
  obtain ⟨o1, -, s1⟩ := slice_at g n c i n (by omega) (by omega)
  have s2 := slice_hi g n c i (by omega)
  have HO : Hid (Own w B (some ⟨g, 0, none⟩) i c (l.take i)) := Own.of hBg hg (by omega) hcm hcl (by rw [← cells_take, ← ht, List.take_take, Nat.min_eq_left (by omega)])
  have HV : Hid (Rd w (some ⟨h, 0, none⟩) m c2 r) := hV
  have HM : Hid (i + m ≤ 140737488355328) := by show _ ≤ _; omega
  have HB : Hid (B ≤ w.heap.size) := hBw
  have HL : Hid (l.take i ++ (r ++ l.drop n) = l.take i ++ r) := by
    show _ = _
    rw [List.drop_eq_nil_of_le (by omega), List.append_nil]
  have hz2 : ¬ ((i : Int) = (n : Int)) := by omega
  have hz3 : ¬ ((i : Int) + (m : Int) < (n : Int)) := by omega
  clear hg hV ht hcl hBg hcm
  go_enter Try.func65, Try.ntmps65
  go_wp2_with (at_builtin; refine append_rowG rfl (.tmp 32) (.tmp 33) rfl B rfl HO.out rfl HV.out HM.out HB.out ?_; intro a4 n4 c4 w4 hn4 HO4 HG4 HW4; replace hn4 : ¬ ((n4 : Int) < (n : Int)) := (by omega))
  go_ret
  exact ⟨_, _, _, rfl, by rw [HL.out]; exact HO4.out, HG4.out, HW4.out⟩

set_option maxRecDepth 100000 in
set_option maxHeartbeats 4000000 in
/-- To the end, by what is shorter. -/
theorem replace_less (B : Nat) (g n c : Nat) (l : List UInt8) (h m c2 : Nat) (r : List UInt8) (i : Nat) (w : World) (cur : List Value) (hBg : B ≤ g) (hg : Bk w g cur) (hV : Rd w (some ⟨h, 0, none⟩) m c2 r) (hn : n ≤ c) (hcm : c ≤ maxLen) (hcl : cur.length = c) (ht : cur.take n = cells l)
    (hl : l.length = n) (hi : i < n) (hm : i + m < n) :
    Calls Try.prog 65 #[.slice (some ⟨g, 0, none⟩) n c, .int .i64 i, .int .i64 n, .slice (some ⟨h, 0, none⟩) m c2] w fun e w' => Turned w B (some ⟨g, 0, none⟩) (l.take i ++ (r ++ l.drop n)) e w' := by
  have hcm' := hcm
  unfold maxLen at hcm'
  obtain ⟨k, hK⟩ : ∃ k, i + m = k := ⟨_, rfl⟩
  obtain ⟨o1, -, s1⟩ := slice_at g n c i n (by omega) (by omega)
  have s2 := slice_hi g n c i (by omega)
  obtain ⟨o3, ho3, s3⟩ := slice_lo g n c k (by omega)
  have hO3 : o3 = k := ho3 (by omega)
  subst hO3
  have hrl := hV.len
  obtain ⟨Y, hY⟩ : ∃ Y, Y = cells r := ⟨_, rfl⟩
  have hYl : Y.length = m := by rw [hY, cells_len]; omega
  have hYs : ∀ j v, Y[j]? = some v → w.cell? ((⟨h, 0, none⟩ : Addr).add j) = some v := by
    intro j v hv
    have hj := (List.getElem?_eq_some_iff.1 hv).1
    obtain ⟨b, off, e, hc⟩ := hV.cell j (by omega)
    cases e
    rw [add_flat, hc]
    rw [hY, cells, List.getElem?_map, List.getElem?_eq_getElem (by omega)] at hv
    rw [List.getD_eq_getElem?_getD, List.getElem?_eq_getElem (by omega)]
    exact hv
  obtain ⟨w1, hr1, hB1, hG1⟩ := run_append_in w g i c cur hg hcl ⟨h, 0, none⟩ m c2 Y hYl hYs (by rw [hY]; exact cells_one _) (by omega)
  rw [hK] at hr1
  have hsl : (splice cur i Y).length = c := by rw [length_splice _ _ _ (by omega), hcl]
  have HB1 : Hid (Bk w1 g (splice cur i Y)) := hB1
  have HG1 : Hid (w.grownBy w1 (some g)) := hG1
  have HF : Hid (o3 + (n - o3) ≤ (splice cur i Y).length) := by show _ ≤ _; rw [hsl]; omega
  have HF2 : Hid ((splice cur i Y).length = c) := hsl
  have HL : Hid ((splice cur i Y).take o3 = cells (l.take i ++ (r ++ l.drop n))) := by
    show _ = _
    have := take_splice_at cur Y i (by omega)
    rw [show i + Y.length = o3 by omega] at this
    rw [this, List.drop_eq_nil_of_le (by omega), List.append_nil, cells_append, hY, ← cells_take, ← ht, List.take_take, Nat.min_eq_left (by omega)]
  have HBg : Hid (B ≤ g) := hBg
  have HM : Hid (c ≤ maxLen) := hcm
  have hz2 : ¬ ((i : Int) = (n : Int)) := by omega
  have hz3 : ((o3 : Int) < (n : Int)) := by omega
  have hoc : o3 ≤ c := by omega
  clear hY hYl hYs ht hcl hg hV hBg hB1 hG1 hsl hK hm ho3 hrl hcm
  go_enter Try.func65, Try.ntmps65
  go_wp2_with (first | (at_builtin; refine Lib.wpList_append_run _ rfl (.tmp 32) (.tmp 33) 42 42 rfl _ _ rfl rfl _ _ (hr1 _) ?_) | (refine clear_in rfl (.tmp 43) rfl rfl _ HB1.out HF.out ?_; intro w2 HB2 HG2))
  go_ret
  refine ⟨_, _, _, rfl, Own.of HBg.out HB2.out hoc HM.out ?_ ?_, grown_trans HG1.out HG2.out, .inl rfl⟩
  · exact (length_splice _ _ _ (by rw [List.length_replicate]; exact HF.out)).trans HF2.out
  · exact (take_splice_low _ _ _ _ (Nat.le_refl _) (Nat.le_trans hoc (Nat.le_of_eq HF2.out.symm))).trans HL.out

set_option maxRecDepth 100000 in
set_option maxHeartbeats 4000000 in
theorem replace_wide (B : Nat) (g n c : Nat) (l : List UInt8) (h m c2 : Nat) (r : List UInt8) (i j : Nat) (w : World) (cur cv : List Value) (hBg : B ≤ g) (hg : Bk w g cur) (hh : Bk w h cv) (hne : h ≠ g) (hn : n ≤ c) (hcm : c ≤ maxLen) (hcl : cur.length = c) (ht : cur.take n = cells l) (htv : cv.take m = cells r) (hcv : cv.length ≠ 0)
    (hl : l.length = n) (hr : r.length = m) (hi : i < j) (hj : j < n) (hb : n + m ≤ 140737488355328) (hx : j < i + m) (hroom : i + m + (n - j) ≤ c) :
    Calls Try.prog 65 #[.slice (some ⟨g, 0, none⟩) n c, .int .i64 i, .int .i64 j, .slice (some ⟨h, 0, none⟩) m c2] w fun e w' => Turned w B (some ⟨g, 0, none⟩) (l.take i ++ (r ++ l.drop j)) e w' := by
  have hcm' := hcm
  unfold maxLen at hcm'
  obtain ⟨k, hK⟩ : ∃ k, i + m = k := ⟨_, rfl⟩
  obtain ⟨d, hD⟩ : ∃ d, n - j = d := ⟨_, rfl⟩
  obtain ⟨t, hT⟩ : ∃ t, k + d = t := ⟨_, rfl⟩
  have hKi : (i : Int) + (m : Int) = k := by omega
  have hTi : (k : Int) + (d : Int) = t := by omega
  obtain ⟨o1, -, s1⟩ := slice_at g n c i j (by omega) (by omega)
  have s2 := slice_hi g n c i (by omega)
  obtain ⟨o3, ho3, s3⟩ := slice_lo g n c j (by omega)
  have hO3 : o3 = j := ho3 (by omega)
  subst hO3
  rw [hD] at s3
  obtain ⟨X, hX⟩ : ∃ X, X = cells (l.drop o3) := ⟨_, rfl⟩
  obtain ⟨Y, hY⟩ : ∃ Y, Y = cells r := ⟨_, rfl⟩
  have hXl : X.length = d := by rw [hX, cells_len, List.length_drop]; omega
  have hYl : Y.length = m := by rw [hY, cells_len]; omega
  have HX4 : Hid (∀ v ∈ X, v.oneCell' = true) := by show ∀ _, _; rw [hX]; exact cells_one _
  have HY4 : Hid (∀ v ∈ Y, v.oneCell' = true) := by show ∀ _, _; rw [hY]; exact cells_one _
  have HYs : Hid (∀ w1 : World, Bk w1 h cv → ∀ j v, Y[j]? = some v → w1.cell? ((⟨h, 0, none⟩ : Addr).add j) = some v) := by
    show ∀ _, _
    intro w1 h1
    rw [hY]; exact cell_all h1 htv (by omega)
  have HXl : Hid (X.length = d) := hXl
  have HYl : Hid (Y.length = m) := hYl
  have HH : Hid (Bk w h cv) := hh
  have HN : Hid (some h ≠ some g) := fun e => hne (Option.some.inj e)
  have HBg : Hid (B ≤ g) := hBg
  have HCM : Hid (c ≤ maxLen) := hcm
  have hz2 : ¬ ((i : Int) = (o3 : Int)) := by omega
  have hz3 : ¬ ((o3 : Int) = (n : Int)) := by omega
  have hwk : IntKind.i64.wrap (k : Int) = k := by rw [IntKind.wrap_i64]; omega
  have hwt : IntKind.i64.wrap (t : Int) = t := by rw [IntKind.wrap_i64]; omega
  have hA : cur.take i = cells (l.take i) := by rw [← cells_take, ← ht, List.take_take, Nat.min_eq_left (by omega)]
  have s4 := slice_hi g n c t (by omega)
  obtain ⟨o5, ho5, s5⟩ := slice_lo g t c k (by omega)
  obtain ⟨o6, ho6, s6⟩ := slice_lo g t c i (by omega)
  have hO6 : o6 = i := ho6 (by omega)
  subst hO6
  have htk : t - k = d := by omega
  rw [htk] at s5
  have HOV : Hid (∀ W : World, Bk W g cur → Bk W h cv → ∀ lb cb, (callFunc 82 #[.slice (some ⟨g, o5, none⟩) lb cb, .slice (some ⟨h, 0, none⟩) m c2]).run Try.prog W = .ok (.value (.bool false)) W) := fun W h1 h2 lb cb => apart_any h1 h2 (Ne.symm hne) hcv o5 0 lb cb m c2
  have HG : Hid (Bk w g cur) := hg
  have HX1 : Hid (X.length = Nat.min d d) := by show X.length = min _ _; rw [hXl, Nat.min_self]
  have HX2 : Hid (∀ W : World, Bk W g cur → CpOk W (some ⟨g, o5, none⟩) (some ⟨g, o3, none⟩) g k X) := fun W h1 h0 =>
    ⟨by rw [ho5 (by omega)], _, rfl, by rw [hX]; exact cell_of h1 ht o3 (by omega)⟩
  have HX3 : Hid (k + X.length ≤ cur.length) := by show _ ≤ _; omega
  have HY1 : Hid (Y.length = Nat.min m (t - o6)) := by show Y.length = min _ _; rw [hYl, Nat.min_def]; split <;> omega
  have HY3 : Hid (o6 + Y.length ≤ (splice cur k X).length) := by show _ ≤ _; rw [length_splice _ _ _ HX3.out]; omega
  have HL : Hid ((splice (splice cur k X) o6 Y).take t = cells (l.take o6 ++ (r ++ l.drop o3))) := by
    show _ = _
    rw [rep_place2 cur Y X o6 k t (by omega) (by omega) (by omega), hA, hX, hY, cells_append, cells_append]
  have HC : Hid ((splice (splice cur k X) o6 Y).length = c) := by show _ = _; rw [length_splice _ _ _ HY3.out, length_splice _ _ _ HX3.out, hcl]
  have hz4 : ¬ ((k : Int) ≤ (o3 : Int)) := by omega
  have hz5 : ¬ ((c : Int) < (t : Int)) := by omega
  have htc : t ≤ c := by omega
  have hkt : k ≤ t := by omega
  have hit : o6 ≤ t := by omega
  clear hX hY hXl hYl ht htv hcl hg hh ho3 ho5 ho6 hBg hne hD hK hT hcm hA htk hcv
  go_enter Try.func65, Try.ntmps65
  go_wp2_with fail
  go_quiet (fail)
  have HW1 : Hid (w.grownBy (w.drewN nq) (some g)) := grown_drewN w nq _
  have HW2 : Hid (Bk (w.drewN nq) g cur) := HG.out.drewN nq
  have HW3 : Hid (Bk (w.drewN nq) h cv) := HH.out.drewN nq
  generalize w.drewN nq = W at *
  have hov := HOV.out W HW2.out HW3.out
  have HWd : Hid (Bk W.drew g cur) := HW2.out
  have HX2d := HX2.out W.drew HWd.out
  have HX2' : Hid (CpOk W.drew (some ⟨g, o5, none⟩) (some ⟨g, o3, none⟩) g k X) := HX2d
  clear HX2d
  go_wp2_with (simp only [hov])
  go_region_law (refine step_copy_in rfl (.tmp 126) (.tmp 129) rfl (by simp [Act.eval, Act.put] <;> rfl) (by simp [Act.eval, Act.put] <;> rfl) g k cur HWd.out X HX1.out HX2'.out HX3.out HX4.out ?_; intro w1 HB1 HG1)
  have HY2 : Hid (CpOk w1 (some ⟨g, o6, none⟩) (some ⟨h, 0, none⟩) g o6 Y) := fun _ => ⟨rfl, _, rfl, HYs.out w1 (HW3.out.keep (drew_grown HG1.out) HN.out)⟩
  obtain ⟨w2, hr2, hB2, hG2⟩ := run_copy_in w1 _ _ (t - o6) (c - o6) m c2 g o6 _ HB1.out Y HY1.out HY2.out HY3.out HY4.out
  have HB2 : Hid (Bk w2 g (splice (splice cur k X) o6 Y)) := hB2
  have HG2 : Hid (w1.grownBy w2 (some g)) := hG2
  clear hB2 hG2
  go_wp2_with (simp only [hr2])
  go_ret
  exact ⟨_, _, _, rfl, Own.of HBg.out HB2.out htc HCM.out HC.out HL.out, grown_trans (grown_trans HW1.out (drew_grown HG1.out)) HG2.out, .inl rfl⟩

end Go.Proofs.Ytemiajjjhhofaab
