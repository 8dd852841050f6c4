/-
  slices.Replace at []byte, what fits.
-/
import Derived.Test.YtemiajjjhhofaabRep
namespace Go.Proofs.Ytemiajjjhhofaab
open Go.RowKit Go.PlainAid

set_option maxRecDepth 100000 in
set_option maxHeartbeats 4000000 in
theorem replace_fit (B : Nat) (g n c : Nat) (l : List UInt8) (h m c2 : Nat) (r : List UInt8) (i j : Nat) (w : World) (cur cv : List Value) (hBg : B ≤ g) (hg : Bk w g cur) (hh : Bk w h cv) (hne : h ≠ g) (hn : n ≤ c) (hcm : c ≤ maxLen) (hcl : cur.length = c) (ht : cur.take n = cells l) (htv : cv.take m = cells r)
    (hl : l.length = n) (hr : r.length = m) (hi : i < j) (hj : j < n) (hb : n + m ≤ 140737488355328) (hx : i + m ≤ j) :
    Calls Try.prog 65 #[.slice (some ⟨g, 0, none⟩) n c, .int .i64 i, .int .i64 j, .slice (some ⟨h, 0, none⟩) m c2] w fun e w' => Turned w B (some ⟨g, 0, none⟩) (l.take i ++ (r ++ l.drop j)) e w' := by
  have hcm' := hcm
  unfold maxLen at hcm'
  obtain ⟨k, hK⟩ : ∃ k, i + m = k := ⟨_, rfl⟩
  obtain ⟨d, hD⟩ : ∃ d, n - j = d := ⟨_, rfl⟩
  obtain ⟨t, hT⟩ : ∃ t, k + d = t := ⟨_, rfl⟩
  have hKi : (i : Int) + (m : Int) = k := by omega
  have hTi : (k : Int) + (d : Int) = t := by omega
  obtain ⟨o1, -, s1⟩ := slice_at g n c i j (by omega) (by omega)
  have s2 := slice_hi g n c i (by omega)
  obtain ⟨o3, ho3, s3⟩ := slice_lo g n c j (by omega)
  have hO3 : o3 = j := ho3 (by omega)
  subst hO3
  rw [hD] at s3
  obtain ⟨X, hX⟩ : ∃ X, X = cells (l.drop o3) := ⟨_, rfl⟩
  obtain ⟨Y, hY⟩ : ∃ Y, Y = cells r := ⟨_, rfl⟩
  have hXl : X.length = d := by rw [hX, cells_len, List.length_drop]; omega
  have hYl : Y.length = m := by rw [hY, cells_len]; omega
  have HX4 : Hid (∀ v ∈ X, v.oneCell' = true) := by show ∀ _, _; rw [hX]; exact cells_one _
  have HY4 : Hid (∀ v ∈ Y, v.oneCell' = true) := by show ∀ _, _; rw [hY]; exact cells_one _
  have HYs : Hid (∀ w1 : World, Bk w1 h cv → ∀ j v, Y[j]? = some v → w1.cell? ((⟨h, 0, none⟩ : Addr).add j) = some v) := by
    show ∀ _, _
    intro w1 h1
    rw [hY]; exact cell_all h1 htv (by omega)
  have HXl : Hid (X.length = d) := hXl
  have HYl : Hid (Y.length = m) := hYl
  have HH : Hid (Bk w h cv) := hh
  have HN : Hid (some h ≠ some g) := fun e => hne (Option.some.inj e)
  have HBg : Hid (B ≤ g) := hBg
  have HCM : Hid (c ≤ maxLen) := hcm
  have hz2 : ¬ ((i : Int) = (o3 : Int)) := by omega
  have hz3 : ¬ ((o3 : Int) = (n : Int)) := by omega
  have hwk : IntKind.i64.wrap (k : Int) = k := by rw [IntKind.wrap_i64]; omega
  have hwt : IntKind.i64.wrap (t : Int) = t := by rw [IntKind.wrap_i64]; omega
  have hA : cur.take i = cells (l.take i) := by rw [← cells_take, ← ht, List.take_take, Nat.min_eq_left (by omega)]
  have s4 := slice_hi g n c t (by omega)
  obtain ⟨o5, ho5, s5⟩ := slice_lo g t c k (by omega)
  obtain ⟨o6, ho6, s6⟩ := slice_lo g t c i (by omega)
  obtain ⟨o7, ho7, s7⟩ := slice_lo g n c t (by omega)
  have hO6 : o6 = i := ho6 (by omega)
  subst hO6
  have htk : t - k = d := by omega
  rw [htk] at s5
  have HG : Hid (Bk w g cur) := hg
  have HY1 : Hid (Y.length = Nat.min m (t - o6)) := by show Y.length = min _ _; rw [hYl, Nat.min_def]; split <;> omega
  have HY3 : Hid (o6 + Y.length ≤ cur.length) := by show _ ≤ _; omega
  have hsp : (splice cur o6 Y).length = c := by rw [length_splice _ _ _ HY3.out, hcl]
  have HX1 : Hid (X.length = Nat.min d d) := by show X.length = min _ _; rw [hXl, Nat.min_self]
  have HX2 : Hid (∀ W : World, Bk W g (splice cur o6 Y) → CpOk W (some ⟨g, o5, none⟩) (some ⟨g, o3, none⟩) g k X) := fun W h1 h0 =>
    ⟨by rw [ho5 (by omega)], _, rfl, fun q v hv => by
      have hq := (List.getElem?_eq_some_iff.1 hv).1
      rw [add_flat, h1.cell, splice_get _ _ _ HY3.out, if_neg (by omega), if_neg (by omega)]
      rw [hX] at hv
      have := cell_of hg ht o3 (by omega) q v hv
      rw [add_flat, hg.cell] at this
      exact this⟩
  have HX3 : Hid (k + X.length ≤ (splice cur o6 Y).length) := by show _ ≤ _; omega
  have hsp2 : (splice (splice cur o6 Y) k X).length = c := by rw [length_splice _ _ _ HX3.out, hsp]
  have HL : Hid ((splice (splice cur o6 Y) k X).take t = cells (l.take o6 ++ (r ++ l.drop o3))) := by
    show _ = _
    rw [rep_place1 cur Y X o6 k t (by omega) (by omega) (by omega), hA, hX, hY, cells_append, cells_append]
  have HC : Hid ((splice (splice cur o6 Y) k X).length = c) := hsp2
  have HO7 : Hid (t < n → o7 = t) := by show _ → _; intro; exact ho7 (by omega)
  have hz4 : ((k : Int) ≤ (o3 : Int)) := by omega
  have hz5 : ¬ ((c : Int) < (t : Int)) := by omega
  have htc : t ≤ c := by omega
  have htn : t ≤ n := by omega
  have hkt : k ≤ t := by omega
  have hit : o6 ≤ t := by omega
  clear hX hY hXl hYl ht htv hcl hg hh ho3 ho5 ho6 ho7 hBg hne hD hK hT hcm hA htk hsp hsp2
  go_enter Try.func65, Try.ntmps65
  go_wp2_with fail
  go_quiet (fail)
  have HW1 : Hid (w.grownBy (w.drewN nq) (some g)) := grown_drewN w nq _
  have HW2 : Hid (Bk (w.drewN nq) g cur) := HG.out.drewN nq
  have HW3 : Hid (Bk (w.drewN nq) h cv) := HH.out.drewN nq
  generalize w.drewN nq = W at *
  have HY2 : Hid (CpOk W (some ⟨g, o6, none⟩) (some ⟨h, 0, none⟩) g o6 Y) := fun _ => ⟨rfl, _, rfl, HYs.out W HW3.out⟩
  obtain ⟨w1, hr1, hB1, hG1⟩ := run_copy_in W _ _ (t - o6) (c - o6) m c2 g o6 _ HW2.out Y HY1.out HY2.out HY3.out HY4.out
  have HB1 : Hid (Bk w1 g (splice cur o6 Y)) := hB1
  have HG1 : Hid (W.grownBy w1 (some g)) := hG1
  clear hB1 hG1
  go_wp2_with (simp only [hr1])
  have HWd : Hid (Bk w1.drew g (splice cur o6 Y)) := HB1.out
  have HX2d := HX2.out w1.drew HWd.out
  have HX2' : Hid (CpOk w1.drew (some ⟨g, o5, none⟩) (some ⟨g, o3, none⟩) g k X) := HX2d
  clear HX2d
  go_region_law (refine step_copy_in rfl (.tmp 103) (.tmp 106) rfl (by simp [Act.eval, Act.put] <;> rfl) (by simp [Act.eval, Act.put] <;> rfl) g k _ HWd.out X HX1.out HX2'.out HX3.out HX4.out ?_; intro w2 HB2 HG2)
  by_cases h7 : t < n
  · have h8 : o7 = t := HO7.out h7
    subst h8
    have HF : Hid (o7 + (n - o7) ≤ (splice (splice cur o6 Y) k X).length) := by show _ ≤ _; rw [HC.out]; omega
    go_wp2_with (refine clear_in rfl (.tmp 110) rfl rfl _ HB2.out HF.out ?_; intro w3 HB3 HG3)
    go_ret
    refine ⟨_, _, _, rfl, Own.of HBg.out HB3.out htc HCM.out ?_ ?_, grown_trans (grown_trans (grown_trans HW1.out HG1.out) (drew_grown HG2.out)) HG3.out, .inl rfl⟩
    · exact (length_splice _ _ _ (by rw [List.length_replicate]; exact HF.out)).trans HC.out
    · exact (take_splice_low _ _ _ _ (Nat.le_refl _) (Nat.le_trans htc (Nat.le_of_eq HC.out.symm))).trans HL.out
  · have h8 : t = n := by omega
    subst h8
    have hrc : ∀ o c', ∀ ty, (Builtin.clear_ #[42] ty #[.slice (some ⟨g, o, none⟩) 0 c']).run Try.prog w2 = .ok (.tuple #[]) w2 := by
      intro o c' ty
      simp [Builtin.clear_, run_underlying Try.underlying42]
    rw [Nat.sub_self] at s7
    go_wp2_with (simp only [hrc])
    go_ret
    exact ⟨_, _, _, rfl, Own.of HBg.out HB2.out htc HCM.out HC.out HL.out, grown_trans (grown_trans HW1.out HG1.out) (drew_grown HG2.out), .inl rfl⟩

end Go.Proofs.Ytemiajjjhhofaab
