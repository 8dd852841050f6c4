/-
  slices.Replace at []byte, what wants a new row.
-/
import Derived.Test.YtemiajjjhhofaabRep
namespace Go.Proofs.Ytemiajjjhhofaab
open Go.RowKit Go.PlainAid

theorem size_drewN (w : World) : ∀ q, (w.drewN q).heap.size = w.heap.size
  | 0 => rfl
  | q + 1 => size_drewN w q
set_option maxRecDepth 100000 in
set_option maxHeartbeats 4000000 in
theorem replace_new (B : Nat) (g n c : Nat) (l : List UInt8) (h m c2 : Nat) (r : List UInt8) (i j : Nat) (w : World) (cur cv : List Value) (hBw : B ≤ w.heap.size) (hg : Bk w g cur) (hh : Bk w h cv) (hn : n ≤ c) (hcm : c ≤ maxLen) (hcl : cur.length = c) (ht : cur.take n = cells l) (htv : cv.take m = cells r)
    (hl : l.length = n) (hr : r.length = m) (hi : i < j) (hj : j < n) (hb : n + m ≤ 140737488355328) (hroom : c < i + m + (n - j)) :
    Calls Try.prog 65 #[.slice (some ⟨g, 0, none⟩) n c, .int .i64 i, .int .i64 j, .slice (some ⟨h, 0, none⟩) m c2] w fun e w' => Turned w B (some ⟨g, 0, none⟩) (l.take i ++ (r ++ l.drop j)) e w' := by
  have hcm' := hcm
  unfold maxLen at hcm'
  obtain ⟨k, hK⟩ : ∃ k, i + m = k := ⟨_, rfl⟩
  obtain ⟨d, hD⟩ : ∃ d, n - j = d := ⟨_, rfl⟩
  obtain ⟨t, hT⟩ : ∃ t, k + d = t := ⟨_, rfl⟩
  have hKi : (i : Int) + (m : Int) = k := by omega
  have hTi : (k : Int) + (d : Int) = t := by omega
  obtain ⟨o1, -, s1⟩ := slice_at g n c i j (by omega) (by omega)
  have s2 := slice_hi g n c i (by omega)
  obtain ⟨o3, ho3, s3⟩ := slice_lo g n c j (by omega)
  have hO3 : o3 = j := ho3 (by omega)
  subst hO3
  rw [hD] at s3
  obtain ⟨X, hX⟩ : ∃ X, X = cells (l.drop o3) := ⟨_, rfl⟩
  obtain ⟨Y, hY⟩ : ∃ Y, Y = cells r := ⟨_, rfl⟩
  have hXl : X.length = d := by rw [hX, cells_len, List.length_drop]; omega
  have hYl : Y.length = m := by rw [hY, cells_len]; omega
  have HX4 : Hid (∀ v ∈ X, v.oneCell' = true) := by show ∀ _, _; rw [hX]; exact cells_one _
  have HY4 : Hid (∀ v ∈ Y, v.oneCell' = true) := by show ∀ _, _; rw [hY]; exact cells_one _
  have HYs : Hid (∀ w1 : World, Bk w1 h cv → ∀ j v, Y[j]? = some v → w1.cell? ((⟨h, 0, none⟩ : Addr).add j) = some v) := by
    show ∀ _, _
    intro w1 h1
    rw [hY]; exact cell_all h1 htv (by omega)
  have HXl : Hid (X.length = d) := hXl
  have HYl : Hid (Y.length = m) := hYl
  have HH : Hid (Bk w h cv) := hh
  have HCM : Hid (c ≤ maxLen) := hcm
  have hz2 : ¬ ((i : Int) = (o3 : Int)) := by omega
  have hz3 : ¬ ((o3 : Int) = (n : Int)) := by omega
  have hwk : IntKind.i64.wrap (k : Int) = k := by rw [IntKind.wrap_i64]; omega
  have hwt : IntKind.i64.wrap (t : Int) = t := by rw [IntKind.wrap_i64]; omega
  have hA : cur.take i = cells (l.take i) := by rw [← cells_take, ← ht, List.take_take, Nat.min_eq_left (by omega)]
  obtain ⟨q, hQ⟩ : ∃ q, t - i = q := ⟨_, rfl⟩
  have hQi : (t : Int) - (i : Int) = q := by omega
  obtain ⟨G, hG⟩ : ∃ G, w.heap.size = G := ⟨_, rfl⟩
  have HA1 : Hid (0 < q) := by show _ < _; omega
  have HA2 : Hid (i ≤ cur.length) := by show _ ≤ _; omega
  have HA3 : Hid (c < i + q) := by show _ < _; omega
  have HA4 : Hid (i + q ≤ 140737488355328) := by show _ ≤ _; omega
  have HG : Hid (Bk w g cur) := hg
  have HX1 : Hid (X.length = Nat.min d d) := by show X.length = min _ _; rw [hXl, Nat.min_self]
  have HXs : Hid (∀ w1 : World, Bk w1 g cur → ∀ j v, X[j]? = some v → w1.cell? ((⟨g, o3, none⟩ : Addr).add j) = some v) := by
    show ∀ _, _
    intro w1 h1
    rw [hX]; exact cell_of h1 ht o3 (by omega)
  have HY1 : Hid (Y.length = Nat.min m q) := by show Y.length = min _ _; rw [hYl, Nat.min_def]; split <;> omega
  have HYk : Hid (i + Y.length ≤ t) := by show _ ≤ _; omega
  have HXk : Hid (0 < X.length → k < t) := by show _ → _; omega
  have HXk2 : Hid (k + X.length = t) := by show _ = _; omega
  have HL : Hid (∀ C : List Value, C.take i = cur.take i → t ≤ C.length → (splice (splice C i Y) k X).take t = cells (l.take i ++ (r ++ l.drop o3))) := by
    show ∀ _, _
    intro C hC hZ
    rw [rep_place1 C Y X i k t (by omega) (by omega) hZ, hC, hA, hX, hY, cells_append, cells_append]
  have HT : Hid (i + q = t) := by show _ = _; omega
  have HQ : Hid (t - i = q) := hQ
  have HTK : Hid (t - k = d) := by show _ = _; omega
  have HBw : Hid (B ≤ G) := by show _ ≤ _; omega
  have HGg : Hid (g < G) := by have := hg.lt; show _ < _; omega
  have HGe : Hid (w.heap.size = G) := hG
  have hz5 : ((c : Int) < (t : Int)) := by omega
  have hkt : k ≤ t := by omega
  have htb : t ≤ 140737488355328 := by omega
  have hit : i ≤ t := by omega
  clear hX hY hXl hYl ht htv hcl hg hh ho3 hD hK hT hcm hA hG hQ
  go_enter Try.func65, Try.ntmps65
  go_wp2_with fail
  go_quiet (fail)
  have HW1 : Hid (w.grownBy (w.drewN nq) none) := grown_drewN w nq _
  have HW2 : Hid (Bk (w.drewN nq) g cur) := HG.out.drewN nq
  have HW3 : Hid (Bk (w.drewN nq) h cv) := HH.out.drewN nq
  have HW4 : Hid ((w.drewN nq).heap.size = G) := (size_drewN w nq).trans HGe.out
  generalize w.drewN nq = W at *
  go_wp2_with (at_builtin; refine append_zeros rfl (.tmp 63) (.tmp 66) rfl rfl rfl q rfl HA1.out cur HW2.out HA2.out HA3.out HA4.out ?_; intro c3 w1 hc3 hc4 HB1 HG1)
  rw [HW4.out] at HB1
  rw [HT.out] at hc3
  rw [HW4.out, HT.out]
  unfold maxLen at hc4
  obtain ⟨o5, ho5, s5⟩ := slice_lo G t c3 i (by omega)
  obtain ⟨o6, ho6, s6⟩ := slice_lo G t c3 k (by omega)
  have hO5 : o5 = i := ho5 (by omega)
  subst hO5
  have HZ : Hid ((cur.take o5 ++ List.replicate (c3 - o5) (Value.int .u8 0)).length = c3) := by
    have := HA2.out
    show _ = _
    rw [List.length_append, List.length_take, List.length_replicate]; omega
  have HZ2 : Hid ((cur.take o5 ++ List.replicate (c3 - o5) (Value.int .u8 0)).take o5 = cur.take o5) := by
    have := HA2.out
    show _ = _
    rw [List.take_append_of_le_length (by rw [List.length_take]; omega), List.take_take, Nat.min_self]
  obtain ⟨C0, hC0⟩ : ∃ C0, cur.take o5 ++ List.replicate (c3 - o5) (Value.int .u8 0) = C0 := ⟨_, rfl⟩
  rw [hC0] at HB1 HZ HZ2
  have HLL : Hid ((splice (splice C0 o5 Y) k X).take t = cells (l.take o5 ++ (r ++ l.drop o3))) := HL.out C0 HZ2.out (by rw [HZ.out]; omega)
  have HY2 : Hid (CpOk w1 (some ⟨G, o5, none⟩) (some ⟨h, 0, none⟩) G o5 Y) := fun _ => ⟨rfl, _, rfl, HYs.out w1 (HW3.out.keep HG1.out (by simp))⟩
  have HY3 : Hid (o5 + Y.length ≤ C0.length) := by
    have := HYk.out
    have := HZ.out
    show _ ≤ _
    omega
  clear hC0 HZ2 ho5
  rw [HQ.out] at s5
  rw [HTK.out] at s6
  obtain ⟨w2, hr2, hB2, hG2⟩ := run_copy_in w1 _ _ q (c3 - o5) m c2 G o5 C0 HB1.out Y HY1.out HY2.out HY3.out HY4.out
  have HB2 : Hid (Bk w2 G (splice C0 o5 Y)) := hB2
  have HG2 : Hid (w1.grownBy w2 (some G)) := hG2
  clear hB2 hG2
  go_wp2_with (simp only [hr2])
  have HGd : Hid (Bk w2.drew G (splice C0 o5 Y)) := HB2.out.drew
  have HX2 : Hid (CpOk w2.drew (some ⟨G, o6, none⟩) (some ⟨g, o3, none⟩) G k X) := fun h0 =>
    ⟨by have := HXk.out h0; rw [ho6 (by omega)], _, rfl, HXs.out w2.drew ((HW2.out.keep HG1.out (by simp)).keep HG2.out (by intro e; have := Option.some.inj e; have := HGg.out; omega)).drew⟩
  have HX3 : Hid (k + X.length ≤ (splice C0 o5 Y).length) := by
    have := HXk2.out
    have := HZ.out
    show _ ≤ _
    rw [length_splice _ _ _ HY3.out]; omega
  go_region_law (refine step_copy_in rfl (.tmp 78) (.tmp 81) rfl (by simp [Act.eval, Act.put] <;> rfl) (by simp [Act.eval, Act.put] <;> rfl) G k _ HGd.out X HX1.out HX2.out HX3.out HX4.out ?_; intro w3 HB3 HG3)
  go_wp2
  go_ret
  refine ⟨_, _, _, rfl, Own.of HBw.out HB3.out hc3 (by unfold maxLen; omega) (by rw [length_splice _ _ _ HX3.out, length_splice _ _ _ HY3.out]; exact HZ.out) HLL.out, ?_, .inr ⟨_, rfl, Nat.le_of_eq HGe.out⟩⟩
  have e1 : w.grownBy w1 (Option.map (fun x => x.block) (some (⟨g, 0, none⟩ : Addr))) := by
    have := grown_trans HW1.out HG1.out
    exact ⟨this.os, this.tape, this.output, this.size, fun k hk _ => this.block k hk (by simp)⟩
  exact grown_new (grown_new e1 (by have := HGe.out; omega) HG2.out) (by have := HGe.out; omega) (drew_grown HG3.out)

end Go.Proofs.Ytemiajjjhhofaab
