/- Texts that the others stand on. -/
import Derived.Test.YtmjeljldmmkcpaaGreatK21
import Derived.Test.YtmjeljldmmkcpaaGreatK19
import Derived.Test.YtmjeljldmmkcpaaGreatK20
import Derived.Deep.OwnRows
import Derived.Laws.AppendOwnNone
import Derived.Laws.Rows
import Derived.Laws.Tables
set_option maxRecDepth 100000
set_option maxHeartbeats 4000000
namespace Go.Proofs.YtmjeljldmmkcpaaGreat
open Go.RowKit Go.PlainAid
theorem replace_fit (B : Nat) (g n c : Nat) (l : List UInt8) (h m c2 : Nat) (r : List UInt8) (i j : Nat) (w : World) (cur cv : List Value) (hBg : B ≤ g) (hg : Bk w g cur) (hh : Bk w h cv) (hne : h ≠ g) (hn : n ≤ c) (hcm : c ≤ maxLen) (hcl : cur.length = c) (ht : cur.take n = cells l) (htv : cv.take m = cells r)
  (hl : l.length = n) (hr : r.length = m) (hi : i < j) (hj : j < n) (hb : n + m ≤ 140737488355328) (hx : i + m ≤ j) :
  Calls Tryz.prog 239 #[.slice (some ⟨g, 0, none⟩) n c, .int .i64 i, .int .i64 j, .slice (some ⟨h, 0, none⟩) m c2] w fun e w' => Cb w B (some ⟨g, 0, none⟩) (l.take i ++ (r ++ l.drop j)) e w' := by
 have hcm' := hcm
 unfold maxLen at hcm'
 obtain ⟨k, hK⟩ : ∃ k, i + m = k := ⟨_, rfl⟩
 obtain ⟨d, hD⟩ : ∃ d, n - j = d := ⟨_, rfl⟩
 obtain ⟨t, hT⟩ : ∃ t, k + d = t := ⟨_, rfl⟩
 have hKi : (i : Int) + (m : Int) = k := by omega
 have hTi : (k : Int) + (d : Int) = t := by omega
 obtain ⟨o1, -, s1⟩ := slice_at g n c i j (by omega) (by omega)
 have s2 := Bq g n c i (by omega)
 obtain ⟨o3, ho3, s3⟩ := Az g n c j (by omega)
 have hO3 : o3 = j := ho3 (by omega)
 subst hO3
 rw [hD] at s3
 obtain ⟨X, hX⟩ : ∃ X, X = cells (l.drop o3) := ⟨_, rfl⟩
 obtain ⟨Y, hY⟩ : ∃ Y, Y = cells r := ⟨_, rfl⟩
 have hXl : X.length = d := by rw [hX, A7, List.length_drop]; omega
 have hYl : Y.length = m := by rw [hY, A7]; omega
 have HX4 : Hid (∀ v ∈ X, v.oneCell' = true) := by show ∀ _, _; rw [hX]; exact Bd _
 have HY4 : Hid (∀ v ∈ Y, v.oneCell' = true) := by show ∀ _, _; rw [hY]; exact Bd _
 have HYs : Hid (∀ w1 : World, Bk w1 h cv → ∀ j v, Y[j]? = some v → w1.cell? ((⟨h, 0, none⟩ : Addr).add j) = some v) := by
  show ∀ _, _
  intro w1 h1
  rw [hY]; exact cell_all h1 htv (by omega)
 have HXl : Hid (X.length = d) := hXl
 have HYl : Hid (Y.length = m) := hYl
 have HH : Hid (Bk w h cv) := hh
 have HN : Hid (some h ≠ some g) := fun e => hne (Option.some.inj e)
 have HBg : Hid (B ≤ g) := hBg
 have HCM : Hid (c ≤ maxLen) := hcm
 have hz2 : ¬ ((i : Int) = (o3 : Int)) := by omega
 have hz3 : ¬ ((o3 : Int) = (n : Int)) := by omega
 have hwk : IntKind.i64.wrap (k : Int) = k := by rw [IntKind.wrap_i64]; omega
 have hwt : IntKind.i64.wrap (t : Int) = t := by rw [IntKind.wrap_i64]; omega
 have hA : cur.take i = cells (l.take i) := by rw [← B9, ← ht, List.take_take, Nat.min_eq_left (by omega)]
 have s4 := Bq g n c t (by omega)
 obtain ⟨o5, ho5, s5⟩ := Az g t c k (by omega)
 obtain ⟨o6, ho6, s6⟩ := Az g t c i (by omega)
 obtain ⟨o7, ho7, s7⟩ := Az g n c t (by omega)
 have hO6 : o6 = i := ho6 (by omega)
 subst hO6
 have htk : t - k = d := by omega
 rw [htk] at s5
 have HG : Hid (Bk w g cur) := hg
 have HY1 : Hid (Y.length = Nat.min m (t - o6)) := by show Y.length = min _ _; rw [hYl, Nat.min_def]; split <;> omega
 have HY3 : Hid (o6 + Y.length ≤ cur.length) := by show _ ≤ _; omega
 have hsp : (splice cur o6 Y).length = c := by rw [length_splice _ _ _ HY3.out, hcl]
 have HX1 : Hid (X.length = Nat.min d d) := by show X.length = min _ _; rw [hXl, Nat.min_self]
 have HX2 : Hid (∀ W : World, Bk W g (splice cur o6 Y) → CpOk W (some ⟨g, o5, none⟩) (some ⟨g, o3, none⟩) g k X) := fun W h1 h0 =>
  ⟨by rw [ho5 (by omega)], _, rfl, fun q v hv => by
   have hq := (List.getElem?_eq_some_iff.1 hv).1
   rw [Af, h1.cell, splice_get _ _ _ HY3.out, if_neg (by omega), if_neg (by omega)]
   rw [hX] at hv
   have := cell_of hg ht o3 (by omega) q v hv
   rw [Af, hg.cell] at this
   exact this⟩
 have HX3 : Hid (k + X.length ≤ (splice cur o6 Y).length) := by show _ ≤ _; omega
 have hsp2 : (splice (splice cur o6 Y) k X).length = c := by rw [length_splice _ _ _ HX3.out, hsp]
 have HL : Hid ((splice (splice cur o6 Y) k X).take t = cells (l.take o6 ++ (r ++ l.drop o3))) := by
  show _ = _
  rw [rep_place1 cur Y X o6 k t (by omega) (by omega) (by omega), hA, hX, hY, Av, Av]
 have HC : Hid ((splice (splice cur o6 Y) k X).length = c) := hsp2
 have HO7 : Hid (t < n → o7 = t) := by show _ → _; intro; exact ho7 (by omega)
 have hz4 : ((k : Int) ≤ (o3 : Int)) := by omega
 have hz5 : ¬ ((c : Int) < (t : Int)) := by omega
 have htc : t ≤ c := by omega
 have htn : t ≤ n := by omega
 have hkt : k ≤ t := by omega
 have hit : o6 ≤ t := by omega
 clear hX hY hXl hYl ht htv hcl hg hh ho3 ho5 ho6 ho7 hBg hne hD hK hT hcm hA htk hsp hsp2
 go_enter Tryz.func239, Tryz.ntmps239
 go_wp2_with fail
 go_quiet (fail)
 have HW1 : Hid (w.grownBy (w.drewN nq) (some g)) := grown_drewN w nq _
 have HW2 : Hid (Bk (w.drewN nq) g cur) := HG.out.drewN nq
 have HW3 : Hid (Bk (w.drewN nq) h cv) := HH.out.drewN nq
 generalize w.drewN nq = W at *
 have HY2 : Hid (CpOk W (some ⟨g, o6, none⟩) (some ⟨h, 0, none⟩) g o6 Y) := fun _ => ⟨rfl, _, rfl, HYs.out W HW3.out⟩
 obtain ⟨w1, hr1, hB1, hG1⟩ := Ck W _ _ (t - o6) (c - o6) m c2 g o6 _ HW2.out Y HY1.out HY2.out HY3.out HY4.out
 have HB1 : Hid (Bk w1 g (splice cur o6 Y)) := hB1
 have HG1 : Hid (W.grownBy w1 (some g)) := hG1
 clear hB1 hG1
 go_wp2_with (simp only [hr1])
 have HWd : Hid (Bk w1.drew g (splice cur o6 Y)) := HB1.out
 have HX2d := HX2.out w1.drew HWd.out
 have HX2' : Hid (CpOk w1.drew (some ⟨g, o5, none⟩) (some ⟨g, o3, none⟩) g k X) := HX2d
 clear HX2d
 go_region_law (refine Cn rfl (.tmp 103) (.tmp 106) rfl (by simp [Act.eval, Act.put] <;> rfl) (by simp [Act.eval, Act.put] <;> rfl) g k _ HWd.out X HX1.out HX2'.out HX3.out HX4.out ?_; intro w2 HB2 HG2)
 by_cases h7 : t < n
 ·have h8 : o7 = t := HO7.out h7
  subst h8
  have HF : Hid (o7 + (n - o7) ≤ (splice (splice cur o6 Y) k X).length) := by show _ ≤ _; rw [HC.out]; omega
  go_wp2_with (refine clear_in rfl (.tmp 110) rfl rfl _ HB2.out HF.out ?_; intro w3 HB3 HG3)
  go_ret
  refine ⟨_, _, _, rfl, Own.of HBg.out HB3.out htc HCM.out ?_ ?_, As (As (As HW1.out HG1.out) (Bn HG2.out)) HG3.out, .inl rfl⟩
  ·exact (length_splice _ _ _ (by rw [List.length_replicate]; exact HF.out)).trans HC.out
  ·exact (Bi _ _ _ _ (Nat.le_refl _) (Nat.le_trans htc (Nat.le_of_eq HC.out.symm))).trans HL.out
 ·have h8 : t = n := by omega
  subst h8
  have hrc : ∀ o c', ∀ ty, (Builtin.clear_ #[32] ty #[.slice (some ⟨g, o, none⟩) 0 c']).run Tryz.prog w2 = .ok (.tuple #[]) w2 := by
   intro o c' ty
   simp [Builtin.clear_, run_underlying Tryz.underlying32]
  rw [Nat.sub_self] at s7
  go_wp2_with (simp only [hrc])
  go_ret
  exact ⟨_, _, _, rfl, Own.of HBg.out HB2.out htc HCM.out HC.out HL.out, As (As HW1.out HG1.out) (Bn HG2.out), .inl rfl⟩
theorem size_drewN (w : World) : ∀ q, (w.drewN q).heap.size = w.heap.size
 | 0 => rfl
 | q + 1 => size_drewN w q
theorem replace_new (B : Nat) (g n c : Nat) (l : List UInt8) (h m c2 : Nat) (r : List UInt8) (i j : Nat) (w : World) (cur cv : List Value) (hBw : B ≤ w.heap.size) (hg : Bk w g cur) (hh : Bk w h cv) (hn : n ≤ c) (hcm : c ≤ maxLen) (hcl : cur.length = c) (ht : cur.take n = cells l) (htv : cv.take m = cells r)
  (hl : l.length = n) (hr : r.length = m) (hi : i < j) (hj : j < n) (hb : n + m ≤ 140737488355328) (hroom : c < i + m + (n - j)) :
  Calls Tryz.prog 239 #[.slice (some ⟨g, 0, none⟩) n c, .int .i64 i, .int .i64 j, .slice (some ⟨h, 0, none⟩) m c2] w fun e w' => Cb w B (some ⟨g, 0, none⟩) (l.take i ++ (r ++ l.drop j)) e w' := by
 have hcm' := hcm
 unfold maxLen at hcm'
 obtain ⟨k, hK⟩ : ∃ k, i + m = k := ⟨_, rfl⟩
 obtain ⟨d, hD⟩ : ∃ d, n - j = d := ⟨_, rfl⟩
 obtain ⟨t, hT⟩ : ∃ t, k + d = t := ⟨_, rfl⟩
 have hKi : (i : Int) + (m : Int) = k := by omega
 have hTi : (k : Int) + (d : Int) = t := by omega
 obtain ⟨o1, -, s1⟩ := slice_at g n c i j (by omega) (by omega)
 have s2 := Bq g n c i (by omega)
 obtain ⟨o3, ho3, s3⟩ := Az g n c j (by omega)
 have hO3 : o3 = j := ho3 (by omega)
 subst hO3
 rw [hD] at s3
 obtain ⟨X, hX⟩ : ∃ X, X = cells (l.drop o3) := ⟨_, rfl⟩
 obtain ⟨Y, hY⟩ : ∃ Y, Y = cells r := ⟨_, rfl⟩
 have hXl : X.length = d := by rw [hX, A7, List.length_drop]; omega
 have hYl : Y.length = m := by rw [hY, A7]; omega
 have HX4 : Hid (∀ v ∈ X, v.oneCell' = true) := by show ∀ _, _; rw [hX]; exact Bd _
 have HY4 : Hid (∀ v ∈ Y, v.oneCell' = true) := by show ∀ _, _; rw [hY]; exact Bd _
 have HYs : Hid (∀ w1 : World, Bk w1 h cv → ∀ j v, Y[j]? = some v → w1.cell? ((⟨h, 0, none⟩ : Addr).add j) = some v) := by
  show ∀ _, _
  intro w1 h1
  rw [hY]; exact cell_all h1 htv (by omega)
 have HXl : Hid (X.length = d) := hXl
 have HYl : Hid (Y.length = m) := hYl
 have HH : Hid (Bk w h cv) := hh
 have HCM : Hid (c ≤ maxLen) := hcm
 have hz2 : ¬ ((i : Int) = (o3 : Int)) := by omega
 have hz3 : ¬ ((o3 : Int) = (n : Int)) := by omega
 have hwk : IntKind.i64.wrap (k : Int) = k := by rw [IntKind.wrap_i64]; omega
 have hwt : IntKind.i64.wrap (t : Int) = t := by rw [IntKind.wrap_i64]; omega
 have hA : cur.take i = cells (l.take i) := by rw [← B9, ← ht, List.take_take, Nat.min_eq_left (by omega)]
 obtain ⟨q, hQ⟩ : ∃ q, t - i = q := ⟨_, rfl⟩
 have hQi : (t : Int) - (i : Int) = q := by omega
 obtain ⟨G, hG⟩ : ∃ G, w.heap.size = G := ⟨_, rfl⟩
 have HA1 : Hid (0 < q) := by show _ < _; omega
 have HA2 : Hid (i ≤ cur.length) := by show _ ≤ _; omega
 have HA3 : Hid (c < i + q) := by show _ < _; omega
 have HA4 : Hid (i + q ≤ 140737488355328) := by show _ ≤ _; omega
 have HG : Hid (Bk w g cur) := hg
 have HX1 : Hid (X.length = Nat.min d d) := by show X.length = min _ _; rw [hXl, Nat.min_self]
 have HXs : Hid (∀ w1 : World, Bk w1 g cur → ∀ j v, X[j]? = some v → w1.cell? ((⟨g, o3, none⟩ : Addr).add j) = some v) := by
  show ∀ _, _
  intro w1 h1
  rw [hX]; exact cell_of h1 ht o3 (by omega)
 have HY1 : Hid (Y.length = Nat.min m q) := by show Y.length = min _ _; rw [hYl, Nat.min_def]; split <;> omega
 have HYk : Hid (i + Y.length ≤ t) := by show _ ≤ _; omega
 have HXk : Hid (0 < X.length → k < t) := by show _ → _; omega
 have HXk2 : Hid (k + X.length = t) := by show _ = _; omega
 have HL : Hid (∀ C : List Value, C.take i = cur.take i → t ≤ C.length → (splice (splice C i Y) k X).take t = cells (l.take i ++ (r ++ l.drop o3))) := by
  show ∀ _, _
  intro C hC hZ
  rw [rep_place1 C Y X i k t (by omega) (by omega) hZ, hC, hA, hX, hY, Av, Av]
 have HT : Hid (i + q = t) := by show _ = _; omega
 have HQ : Hid (t - i = q) := hQ
 have HTK : Hid (t - k = d) := by show _ = _; omega
 have HBw : Hid (B ≤ G) := by show _ ≤ _; omega
 have HGg : Hid (g < G) := by have := hg.lt; show _ < _; omega
 have HGe : Hid (w.heap.size = G) := hG
 have hz5 : ((c : Int) < (t : Int)) := by omega
 have hkt : k ≤ t := by omega
 have htb : t ≤ 140737488355328 := by omega
 have hit : i ≤ t := by omega
 clear hX hY hXl hYl ht htv hcl hg hh ho3 hD hK hT hcm hA hG hQ
 go_enter Tryz.func239, Tryz.ntmps239
 go_wp2_with fail
 go_quiet (fail)
 have HW1 : Hid (w.grownBy (w.drewN nq) none) := grown_drewN w nq _
 have HW2 : Hid (Bk (w.drewN nq) g cur) := HG.out.drewN nq
 have HW3 : Hid (Bk (w.drewN nq) h cv) := HH.out.drewN nq
 have HW4 : Hid ((w.drewN nq).heap.size = G) := (size_drewN w nq).trans HGe.out
 generalize w.drewN nq = W at *
 go_wp2_with (at_builtin; refine append_zeros rfl (.tmp 63) (.tmp 66) rfl rfl rfl q rfl HA1.out cur HW2.out HA2.out HA3.out HA4.out ?_; intro c3 w1 hc3 hc4 HB1 HG1)
 rw [HW4.out] at HB1
 rw [HT.out] at hc3
 rw [HW4.out, HT.out]
 unfold maxLen at hc4
 obtain ⟨o5, ho5, s5⟩ := Az G t c3 i (by omega)
 obtain ⟨o6, ho6, s6⟩ := Az G t c3 k (by omega)
 have hO5 : o5 = i := ho5 (by omega)
 subst hO5
 have HZ : Hid ((cur.take o5 ++ List.replicate (c3 - o5) (Value.int .u8 0)).length = c3) := by
  have := HA2.out
  show _ = _
  rw [List.length_append, List.length_take, List.length_replicate]; omega
 have HZ2 : Hid ((cur.take o5 ++ List.replicate (c3 - o5) (Value.int .u8 0)).take o5 = cur.take o5) := by
  have := HA2.out
  show _ = _
  rw [List.take_append_of_le_length (by rw [List.length_take]; omega), List.take_take, Nat.min_self]
 obtain ⟨C0, hC0⟩ : ∃ C0, cur.take o5 ++ List.replicate (c3 - o5) (Value.int .u8 0) = C0 := ⟨_, rfl⟩
 rw [hC0] at HB1 HZ HZ2
 have HLL : Hid ((splice (splice C0 o5 Y) k X).take t = cells (l.take o5 ++ (r ++ l.drop o3))) := HL.out C0 HZ2.out (by rw [HZ.out]; omega)
 have HY2 : Hid (CpOk w1 (some ⟨G, o5, none⟩) (some ⟨h, 0, none⟩) G o5 Y) := fun _ => ⟨rfl, _, rfl, HYs.out w1 (HW3.out.keep HG1.out (by simp))⟩
 have HY3 : Hid (o5 + Y.length ≤ C0.length) := by
  have := HYk.out
  have := HZ.out
  show _ ≤ _
  omega
 clear hC0 HZ2 ho5
 rw [HQ.out] at s5
 rw [HTK.out] at s6
 obtain ⟨w2, hr2, hB2, hG2⟩ := Ck w1 _ _ q (c3 - o5) m c2 G o5 C0 HB1.out Y HY1.out HY2.out HY3.out HY4.out
 have HB2 : Hid (Bk w2 G (splice C0 o5 Y)) := hB2
 have HG2 : Hid (w1.grownBy w2 (some G)) := hG2
 clear hB2 hG2
 go_wp2_with (simp only [hr2])
 have HGd : Hid (Bk w2.drew G (splice C0 o5 Y)) := HB2.out.drew
 have HX2 : Hid (CpOk w2.drew (some ⟨G, o6, none⟩) (some ⟨g, o3, none⟩) G k X) := fun h0 =>
  ⟨by have := HXk.out h0; rw [ho6 (by omega)], _, rfl, HXs.out w2.drew ((HW2.out.keep HG1.out (by simp)).keep HG2.out (by intro e; have := Option.some.inj e; have := HGg.out; omega)).drew⟩
 have HX3 : Hid (k + X.length ≤ (splice C0 o5 Y).length) := by
  have := HXk2.out
  have := HZ.out
  show _ ≤ _
  rw [length_splice _ _ _ HY3.out]; omega
 go_region_law (refine Cn rfl (.tmp 78) (.tmp 81) rfl (by simp [Act.eval, Act.put] <;> rfl) (by simp [Act.eval, Act.put] <;> rfl) G k _ HGd.out X HX1.out HX2.out HX3.out HX4.out ?_; intro w3 HB3 HG3)
 go_wp2
 go_ret
 refine ⟨_, _, _, rfl, Own.of HBw.out HB3.out hc3 (by unfold maxLen; omega) (by rw [length_splice _ _ _ HX3.out, length_splice _ _ _ HY3.out]; exact HZ.out) HLL.out, ?_, .inr ⟨_, rfl, Nat.le_of_eq HGe.out⟩⟩
 have e1 : w.grownBy w1 (Option.map (fun x => x.block) (some (⟨g, 0, none⟩ : Addr))) := by
  have := As HW1.out HG1.out
  exact ⟨this.os, this.tape, this.output, this.size, fun k hk _ => this.block k hk (by simp)⟩
 exact grown_new (grown_new e1 (by have := HGe.out; omega) HG2.out) (by have := HGe.out; omega) (Bn HG3.out)
theorem replace_fit0 (B : Nat) (g n c : Nat) (l : List UInt8) (m c2 : Nat) (r : List UInt8) (i j : Nat) (w : World) (cur : List Value) (hBg : B ≤ g) (hg : Bk w g cur) (hn : n ≤ c) (hcm : c ≤ maxLen) (hcl : cur.length = c) (ht : cur.take n = cells l)
  (hl : l.length = n) (hr : r.length = m) (hm0 : m = 0) (hi : i < j) (hj : j < n) (hb : n + m ≤ 140737488355328) (hx : i + m ≤ j) :
  Calls Tryz.prog 239 #[.slice (some ⟨g, 0, none⟩) n c, .int .i64 i, .int .i64 j, .slice none m c2] w fun e w' => Cb w B (some ⟨g, 0, none⟩) (l.take i ++ (r ++ l.drop j)) e w' := by
 have hcm' := hcm
 unfold maxLen at hcm'
 obtain ⟨k, hK⟩ : ∃ k, i + m = k := ⟨_, rfl⟩
 obtain ⟨d, hD⟩ : ∃ d, n - j = d := ⟨_, rfl⟩
 obtain ⟨t, hT⟩ : ∃ t, k + d = t := ⟨_, rfl⟩
 have hKi : (i : Int) + (m : Int) = k := by omega
 have hTi : (k : Int) + (d : Int) = t := by omega
 obtain ⟨o1, -, s1⟩ := slice_at g n c i j (by omega) (by omega)
 have s2 := Bq g n c i (by omega)
 obtain ⟨o3, ho3, s3⟩ := Az g n c j (by omega)
 have hO3 : o3 = j := ho3 (by omega)
 subst hO3
 rw [hD] at s3
 obtain ⟨X, hX⟩ : ∃ X, X = cells (l.drop o3) := ⟨_, rfl⟩
 obtain ⟨Y, hY⟩ : ∃ Y, Y = cells r := ⟨_, rfl⟩
 have hXl : X.length = d := by rw [hX, A7, List.length_drop]; omega
 have hYl : Y.length = m := by rw [hY, A7]; omega
 have HX4 : Hid (∀ v ∈ X, v.oneCell' = true) := by show ∀ _, _; rw [hX]; exact Bd _
 have HY4 : Hid (∀ v ∈ Y, v.oneCell' = true) := by show ∀ _, _; rw [hY]; exact Bd _
 have HM0 : Hid (m = 0) := hm0
 have HXl : Hid (X.length = d) := hXl
 have HYl : Hid (Y.length = m) := hYl
 have HBg : Hid (B ≤ g) := hBg
 have HCM : Hid (c ≤ maxLen) := hcm
 have hz2 : ¬ ((i : Int) = (o3 : Int)) := by omega
 have hz3 : ¬ ((o3 : Int) = (n : Int)) := by omega
 have hwk : IntKind.i64.wrap (k : Int) = k := by rw [IntKind.wrap_i64]; omega
 have hwt : IntKind.i64.wrap (t : Int) = t := by rw [IntKind.wrap_i64]; omega
 have hA : cur.take i = cells (l.take i) := by rw [← B9, ← ht, List.take_take, Nat.min_eq_left (by omega)]
 have s4 := Bq g n c t (by omega)
 obtain ⟨o5, ho5, s5⟩ := Az g t c k (by omega)
 obtain ⟨o6, ho6, s6⟩ := Az g t c i (by omega)
 obtain ⟨o7, ho7, s7⟩ := Az g n c t (by omega)
 have hO6 : o6 = i := ho6 (by omega)
 subst hO6
 have htk : t - k = d := by omega
 rw [htk] at s5
 have HG : Hid (Bk w g cur) := hg
 have HY1 : Hid (Y.length = Nat.min m (t - o6)) := by show Y.length = min _ _; rw [hYl, Nat.min_def]; split <;> omega
 have HY3 : Hid (o6 + Y.length ≤ cur.length) := by show _ ≤ _; omega
 have hsp : (splice cur o6 Y).length = c := by rw [length_splice _ _ _ HY3.out, hcl]
 have HX1 : Hid (X.length = Nat.min d d) := by show X.length = min _ _; rw [hXl, Nat.min_self]
 have HX2 : Hid (∀ W : World, Bk W g (splice cur o6 Y) → CpOk W (some ⟨g, o5, none⟩) (some ⟨g, o3, none⟩) g k X) := fun W h1 h0 =>
  ⟨by rw [ho5 (by omega)], _, rfl, fun q v hv => by
   have hq := (List.getElem?_eq_some_iff.1 hv).1
   rw [Af, h1.cell, splice_get _ _ _ HY3.out, if_neg (by omega), if_neg (by omega)]
   rw [hX] at hv
   have := cell_of hg ht o3 (by omega) q v hv
   rw [Af, hg.cell] at this
   exact this⟩
 have HX3 : Hid (k + X.length ≤ (splice cur o6 Y).length) := by show _ ≤ _; omega
 have hsp2 : (splice (splice cur o6 Y) k X).length = c := by rw [length_splice _ _ _ HX3.out, hsp]
 have HL : Hid ((splice (splice cur o6 Y) k X).take t = cells (l.take o6 ++ (r ++ l.drop o3))) := by
  show _ = _
  rw [rep_place1 cur Y X o6 k t (by omega) (by omega) (by omega), hA, hX, hY, Av, Av]
 have HC : Hid ((splice (splice cur o6 Y) k X).length = c) := hsp2
 have HO7 : Hid (t < n → o7 = t) := by show _ → _; intro; exact ho7 (by omega)
 have hz4 : ((k : Int) ≤ (o3 : Int)) := by omega
 have hz5 : ¬ ((c : Int) < (t : Int)) := by omega
 have htc : t ≤ c := by omega
 have htn : t ≤ n := by omega
 have hkt : k ≤ t := by omega
 have hit : o6 ≤ t := by omega
 clear hX hY hXl hYl ht hcl hg ho3 ho5 ho6 ho7 hBg hm0 hD hK hT hcm hA htk hsp hsp2
 go_enter Tryz.func239, Tryz.ntmps239
 go_wp2_with fail
 go_quiet (fail)
 have HW1 : Hid (w.grownBy (w.drewN nq) (some g)) := grown_drewN w nq _
 have HW2 : Hid (Bk (w.drewN nq) g cur) := HG.out.drewN nq
 generalize w.drewN nq = W at *
 have HY2 : Hid (CpOk W (some ⟨g, o6, none⟩) none g o6 Y) := fun h0 => absurd h0 (by have := HYl.out; have := HM0.out; omega)
 obtain ⟨w1, hr1, hB1, hG1⟩ := Ck W _ _ (t - o6) (c - o6) m c2 g o6 _ HW2.out Y HY1.out HY2.out HY3.out HY4.out
 have HB1 : Hid (Bk w1 g (splice cur o6 Y)) := hB1
 have HG1 : Hid (W.grownBy w1 (some g)) := hG1
 clear hB1 hG1
 go_wp2_with (simp only [hr1])
 have HWd : Hid (Bk w1.drew g (splice cur o6 Y)) := HB1.out
 have HX2d := HX2.out w1.drew HWd.out
 have HX2' : Hid (CpOk w1.drew (some ⟨g, o5, none⟩) (some ⟨g, o3, none⟩) g k X) := HX2d
 clear HX2d
 go_region_law (refine Cn rfl (.tmp 103) (.tmp 106) rfl (by simp [Act.eval, Act.put] <;> rfl) (by simp [Act.eval, Act.put] <;> rfl) g k _ HWd.out X HX1.out HX2'.out HX3.out HX4.out ?_; intro w2 HB2 HG2)
 by_cases h7 : t < n
 ·have h8 : o7 = t := HO7.out h7
  subst h8
  have HF : Hid (o7 + (n - o7) ≤ (splice (splice cur o6 Y) k X).length) := by show _ ≤ _; rw [HC.out]; omega
  go_wp2_with (refine clear_in rfl (.tmp 110) rfl rfl _ HB2.out HF.out ?_; intro w3 HB3 HG3)
  go_ret
  refine ⟨_, _, _, rfl, Own.of HBg.out HB3.out htc HCM.out ?_ ?_, As (As (As HW1.out HG1.out) (Bn HG2.out)) HG3.out, .inl rfl⟩
  ·exact (length_splice _ _ _ (by rw [List.length_replicate]; exact HF.out)).trans HC.out
  ·exact (Bi _ _ _ _ (Nat.le_refl _) (Nat.le_trans htc (Nat.le_of_eq HC.out.symm))).trans HL.out
 ·have h8 : t = n := by omega
  subst h8
  have hrc : ∀ o c', ∀ ty, (Builtin.clear_ #[32] ty #[.slice (some ⟨g, o, none⟩) 0 c']).run Tryz.prog w2 = .ok (.tuple #[]) w2 := by
   intro o c' ty
   simp [Builtin.clear_, run_underlying Tryz.underlying32]
  rw [Nat.sub_self] at s7
  go_wp2_with (simp only [hrc])
  go_ret
  exact ⟨_, _, _, rfl, Own.of HBg.out HB2.out htc HCM.out HC.out HL.out, As (As HW1.out HG1.out) (Bn HG2.out), .inl rfl⟩
theorem replace_end0 (B : Nat) (g n c : Nat) (l : List UInt8) (i : Nat) (w : World) (cur : List Value) (hBg : B ≤ g) (hg : Bk w g cur) (hn : n ≤ c) (hcm : c ≤ maxLen) (hcl : cur.length = c) (ht : cur.take n = cells l)
  (hl : l.length = n) (hi : i < n) :
  Calls Tryz.prog 239 #[.slice (some ⟨g, 0, none⟩) n c, .int .i64 i, .int .i64 n, .slice none 0 0] w fun e w' => Cb w B (some ⟨g, 0, none⟩) (l.take i ++ l.drop n) e w' := by
 have hcm' := hcm
 unfold maxLen at hcm'
 obtain ⟨o1, -, s1⟩ := slice_at g n c i n (by omega) (by omega)
 have s2 := Bq g n c i (by omega)
 obtain ⟨o3, ho3, s3⟩ := Az g n c i (by omega)
 have hO3 : o3 = i := ho3 (by omega)
 subst hO3
 have hA : cur.take o3 = cells (l.take o3) := by rw [← B9, ← ht, List.take_take, Nat.min_eq_left (by omega)]
 have HO : Own w B (some ⟨g, 0, none⟩) o3 c (l.take o3) := Own.of hBg hg (by omega) hcm hcl hA
 obtain ⟨i0, hi0, hz0, hz1, hz2⟩ := info_parts Tryz.info5
 have hr1 := fun ty => run_append_owned_none (P := Tryz.prog) w B 32 ty 5 i0 1 Tryz.underlying32 hi0 (.slice (some ⟨g, 0, none⟩) o3 c) o3 (cells (l.take o3)) HO
 have HB1 : Hid (Bk w g cur) := hg
 have HF : Hid (o3 + (n - o3) ≤ cur.length) := by show _ ≤ _; rw [hcl]; omega
 have HF2 : Hid (cur.length = c) := hcl
 have HL : Hid (cur.take o3 = cells (l.take o3 ++ l.drop n)) := by
  show _ = _
  rw [List.drop_eq_nil_of_le (by omega), List.append_nil]; exact hA
 have HBg : Hid (B ≤ g) := hBg
 have HM : Hid (c ≤ maxLen) := hcm
 have hz2 : ¬ ((o3 : Int) = (n : Int)) := by omega
 have hz3 : ((o3 : Int) < (n : Int)) := by omega
 have hoc : o3 ≤ c := by omega
 clear ht hcl hg hBg ho3 hcm hA HO hi0 hz0 hz1
 go_enter Tryz.func239, Tryz.ntmps239
 go_wp2_with (first | (at_builtin; refine Lib.wpList_append_run _ rfl (.tmp 32) (.tmp 33) 32 32 rfl _ _ rfl rfl _ _ (hr1 _) ?_) | (refine clear_in rfl (.tmp 43) rfl rfl _ HB1.out HF.out ?_; intro w2 HB2 HG2))
 go_ret
 refine ⟨_, _, _, rfl, Own.of HBg.out HB2.out hoc HM.out ?_ ?_, HG2.out, .inl rfl⟩
 ·exact (length_splice _ _ _ (by rw [List.length_replicate]; exact HF.out)).trans HF2.out
 ·exact (Bi _ _ _ _ (Nat.le_refl _) (Nat.le_trans hoc (Nat.le_of_eq HF2.out.symm))).trans HL.out
theorem Replace_sl (B C : Nat) (a : Option Addr) (n c : Nat) (l : List UInt8) (a2 : Option Addr) (m c2 : Nat) (r : List UInt8) (i j : Nat) (w : World) (hO : Own w B a n c l) (hV : Own w C a2 m c2 r) (hC : ∀ x, a = some x → x.block < C) (hi : i ≤ j) (hj : j ≤ n) (hm : 0 < m ∨ a2 = none) (hb : n + m ≤ 140737488355328) (hB : B ≤ w.heap.size) :
  Calls Tryz.prog 239 #[.slice a n c, .int .i64 i, .int .i64 j, .slice a2 m c2] w fun e w' => Cb w B a (l.take i ++ (r ++ l.drop j)) e w' := by
 have hl := hO.len
 have hr := hV.len
 by_cases hij : i = j
 ·subst hij
  exact replace_none B C a n c l a2 m c2 r i w hO hV hC hj hb hB
 ·obtain ⟨g, cur, rfl, h1, h2, h3, h4, h5, h6⟩ := hO.parts (by omega)
  rcases Nat.eq_zero_or_pos m with hm0 | hm1
  ·have ha : a2 = none := hm.resolve_left (by omega)
   subst ha
   subst hm0
   have hr0 : r = [] := List.length_eq_zero_iff.1 hr
   subst hr0
   have hc2 : c2 = 0 := hV.rd.nul rfl
   subst hc2
   by_cases hjn : j = n
   ·subst hjn
    exact replace_end0 B g j c l i w cur h1 h2 h3 h4 h5 h6 hl (by omega)
   ·exact replace_fit0 B g n c l 0 0 [] i j w cur h1 h2 h3 h4 h5 h6 hl rfl rfl (by omega) (by omega) (by omega) (by omega)
  have hrd := hV.rd
  obtain ⟨h, cv, rfl, k1, k2, k3, k4, k5, k6⟩ := hV.parts (by omega)
  have hne : h ≠ g := by have := hC _ rfl; simp at this; omega
  by_cases hjn : j = n
  ·subst hjn
   by_cases hx : i + m < j
   ·exact replace_less B g j c l h m c2 r i w cur h1 h2 hrd h3 h4 h5 h6 hl (by omega) hx
   ·exact replace_end B g j c l h m c2 r i w cur h1 hB h2 hrd h3 h4 h5 h6 hl (by omega) (by omega) hb
  ·by_cases hroom : i + m + (n - j) ≤ c
   ·by_cases hx : i + m ≤ j
    ·exact replace_fit B g n c l h m c2 r i j w cur cv h1 h2 k2 hne h3 h4 h5 h6 k6 hl hr (by omega) (by omega) hb hx
    ·exact replace_wide B g n c l h m c2 r i j w cur cv h1 h2 k2 hne h3 h4 h5 h6 k6 (by omega) hl hr (by omega) (by omega) hb (by omega) hroom
   ·exact replace_new B g n c l h m c2 r i j w cur cv hB h2 k2 h3 h4 h5 h6 k6 hl hr (by omega) (by omega) hb (by omega)
structure Ext (w : World) where
 wx : World
 ok : Below w.heap.size w wx
theorem wp_region_ext {P : Program} {id : Nat} {Q : Exit → Act → World → Prop} {a : Act} {w : World} {l : List Oper} (hm : P.follows .mixedOrders = true) (hB : Region.lexB .any l.toArray = true)
  (h : wpQuiet P l.toArray (fun w' => ∃ x : Ext w, w' = x.wx) (fun a' => ∀ w', (∃ x : Ext w, w' = x.wx) → Q .normal a' w') l a) : (Code.region id l.toArray true).wp P Q a w :=
 wp_region_quiet (C := fun w' => ∃ x : Ext w, w' = x.wx) hm hB ⟨⟨_, (Below.refl _ _).drew⟩, rfl⟩ (by simpa using h)
theorem Calls.ext_of {P : Program} {f : FuncId} {args : Array Value} {w : World} {x : Ext w} {v : Value}
  (h : Calls P f args x.wx fun e w' => Below x.wx.heap.size x.wx w' ∧ e = .returned v) : Calls P f args x.wx fun e w'' => e = .returned v ∧ ∃ y : Ext w, w'' = y.wx :=
 h.mono fun _ w' ⟨hb, he⟩ => ⟨he, ⟨w', x.ok.trans (hb.mono x.ok.size)⟩, rfl⟩
end Go.Proofs.YtmjeljldmmkcpaaGreat
namespace Go.Proofs.YtmjeljldmmkcpaaGreat
def off (ls : List BA) (i : Nat) : Nat := (pack (ls.take i)).length
def Fit (ls : List BA) : Prop := ∀ s ∈ ls, s.size ≤ 4096
def txt (ls : List BA) (i : Nat) : BA := ls.getD i ByteArray.empty
theorem off_zero (ls : List BA) : off ls 0 = 0 := rfl
theorem off_all (ls : List BA) {i : Nat} (h : ls.length ≤ i) : off ls i = (pack ls).length := by rw [off, List.take_of_length_le h]
theorem off_succ (ls : List BA) {i : Nat} (h : i < ls.length) : off ls (i + 1) = off ls i + (enc (lst (txt ls i))).length := by
 rw [off, pack_take ls i h, List.length_append]; rfl
theorem off_step (ls : List BA) {i : Nat} (h : i < ls.length) : off ls i + 2 ≤ off ls (i + 1) := by
 have := (enc_len (lst (txt ls i))).1
 rw [off_succ ls h]; omega
theorem off_le (ls : List BA) (i : Nat) : off ls i ≤ (pack ls).length := by
 rw [off]
 conv => rhs; rw [← List.take_append_drop i ls, B4, List.length_append]
 omega
theorem off_lt (ls : List BA) {i : Nat} (h : i < ls.length) : off ls i < (pack ls).length := by
 have := off_step ls h
 have := off_le ls (i + 1)
 omega
theorem len_pack (ls : List BA) : 2 * ls.length ≤ (pack ls).length := by
 induction ls with
 | nil => simp [pack]
 | cons s r ih =>
  have := (enc_len (lst s)).1
  rw [pack, List.length_append, List.length_cons]; omega
theorem Fit.at {ls : List BA} (h : Fit ls) {i : Nat} (hi : i < ls.length) : (txt ls i).size ≤ 4096 := short_get h i hi
theorem decAt_off {ls : List BA} (hf : Fit ls) {i : Nat} (h : i < ls.length) : decAt (pack ls) (off ls i : Nat) = some (lst (txt ls i), off ls (i + 1)) := by
 have h1 := pack_split ls i h
 rw [h1, off, decAt_enc _ _ _ (by rw [len_lst]; exact hf.at h), off_succ ls h]; rfl
theorem bkAt_off {ls : List BA} (hf : Fit ls) {i : Nat} (h : i < ls.length) : bkAt (pack ls) (off ls (i + 1) : Nat) = some ((off ls i : Nat) : Int) := by
 have h1 := pack_split ls i h
 have h2 := bkAt_enc (pack (ls.take i)) (lst (txt ls i)) (pack (ls.drop (i + 1))) (by rw [len_lst]; exact hf.at h)
 rw [off_succ ls h, h1]
 exact h2
theorem take_off (ls : List BA) (i : Nat) : (pack ls).take (off ls i) = pack (ls.take i) := by
 have h : pack ls = pack (ls.take i) ++ pack (ls.drop i) := by rw [← B4, List.take_append_drop]
 rw [h, off, List.take_left]
theorem drop_off (ls : List BA) (i : Nat) : (pack ls).drop (off ls i) = pack (ls.drop i) := by
 have h : pack ls = pack (ls.take i) ++ pack (ls.drop i) := by rw [← B4, List.take_append_drop]
 rw [h, off, List.drop_left]
end Go.Proofs.YtmjeljldmmkcpaaGreat
