/-
  slices.Insert at []byte: the row with v ahead of place i.
-/
import Derived.Test.YtemiajjjhhofaabSl0
namespace Go.Proofs.Ytemiajjjhhofaab
open Go.RowKit Go.PlainAid

/-- What a call answers that turns a row. -/
def Turned (w : World) (B : Nat) (a : Option Addr) (l : List UInt8) (e : Ending) (w' : World) : Prop :=
  ∃ a' n' c', e = .returned (.slice a' n' c') ∧ Own w' B a' n' c' l ∧ w.grownBy w' (a.map (·.block)) ∧ Went w a a'

theorem splice_get (L : List Value) (off : Nat) (cs : List Value) (h : off + cs.length ≤ L.length) (j : Nat) : (splice L off cs)[j]? = if j < off then L[j]? else if j < off + cs.length then cs[j - off]? else L[j]? := by
  unfold splice
  rw [List.getElem?_append, List.length_take, Nat.min_eq_left (by omega)]
  split
  · rw [List.getElem?_take, if_pos (by assumption)]
  · rw [List.getElem?_append]
    split
    · rw [if_pos (by omega)]
    · rw [if_neg (by omega), List.getElem?_drop]; congr 1; omega
theorem get_take (L : List Value) (n j : Nat) : (L.take n)[j]? = if j < n then L[j]? else none := List.getElem?_take
theorem of_take {cur L : List Value} {n : Nat} (h : cur.take n = L) (j : Nat) (hj : j < n) : cur[j]? = L[j]? := by rw [← h, List.getElem?_take, if_pos hj]

theorem ins_place (cur L R : List Value) (i m n : Nat) (h : cur.take n = L) (hL : L.length = n) (hR : R.length = m) (hc : n + m ≤ cur.length) (hi : i ≤ n) :
    (splice (splice cur (i + m) (L.drop i)) i R).take (n + m) = L.take i ++ (R ++ L.drop i) := by
  have h1 : (splice cur (i + m) (L.drop i)).length = cur.length := length_splice _ _ _ (by rw [List.length_drop]; omega)
  apply List.ext_getElem?
  intro j
  rw [get_take, splice_get _ _ _ (by rw [h1]; omega), splice_get _ _ _ (by rw [List.length_drop]; omega), List.getElem?_append, List.getElem?_append, List.length_take, List.length_drop, Nat.min_eq_left (by omega), get_take, List.getElem?_drop, List.getElem?_drop]
  have ho := of_take h j
  split
  · split
    · rw [if_pos (by omega), ← ho (by omega)]
    · split
      · rw [if_pos (by omega)]
      · rw [if_neg (by omega), if_pos (by omega), if_neg (by omega)]; congr 1; omega
  · rw [if_neg (by omega), if_neg (by omega), List.getElem?_eq_none (by omega)]
theorem ins_new (Z L R : List Value) (i m n : Nat) (hL : L.length = n) (hR : R.length = m) (hZ : n + m ≤ i + Z.length) (hi : i ≤ n) :
    (splice (splice (L.take i ++ Z) i R) (i + m) (L.drop i)).take (n + m) = L.take i ++ (R ++ L.drop i) := by
  have h0 : (L.take i ++ Z).length = i + Z.length := by rw [List.length_append, List.length_take]; omega
  have h1 : (splice (L.take i ++ Z) i R).length = i + Z.length := by rw [length_splice _ _ _ (by omega), h0]
  apply List.ext_getElem?
  intro j
  rw [get_take, splice_get _ _ _ (by rw [h1, List.length_drop]; omega), splice_get _ _ _ (by omega), List.getElem?_append, List.getElem?_append, List.getElem?_append, List.length_take, List.length_drop, Nat.min_eq_left (by omega), get_take, List.getElem?_drop, List.getElem?_drop]
  split
  · split
    · split
      · rfl
      · rw [if_pos (by omega), if_pos (by omega)]
    · rw [if_pos (by omega), if_neg (by omega), if_neg (by omega)]; congr 1; omega
  · rw [if_neg (by omega), if_neg (by omega), List.getElem?_eq_none (by omega)]

theorem cells_len (l : List UInt8) : (cells l).length = l.length := List.length_map ..
theorem cells_take (l : List UInt8) (n : Nat) : (cells l).take n = cells (l.take n) := (List.map_take ..).symm
theorem cells_drop (l : List UInt8) (n : Nat) : (cells l).drop n = cells (l.drop n) := (List.map_drop ..).symm

/-- Two rows in two blocks don't overlap. -/
theorem apart_any {w : World} {g h : Nat} {cg ch : List Value} (hg : Bk w g cg) (hh : Bk w h ch) (hne : g ≠ h) (hpos : ch.length ≠ 0) (o o' la ca lb cb : Nat) :
    (callFunc 82 #[.slice (some ⟨g, o, none⟩) la ca, .slice (some ⟨h, o', none⟩) lb cb]).run Try.prog w = .ok (.value (.bool false)) w := by
  rw [run_callFunc_extern Try.func82 (by kernel_rfl) (by kernel_rfl) (by kernel_rfl) (e := Extern.SlicesOverlaps.overlaps #[42, 42] #[4]) (by kernel_rfl),
      Lib.run_overlaps_apart w 42 4 5 Try.underlying42 1 Try.size5 ⟨g, o, none⟩ ⟨h, o', none⟩ la ca lb cb hne 5 5 _ _ hg.shape hh.shape hpos (hg.frozen _) (hg.frozen _)]
  rfl

set_option maxRecDepth 100000 in
set_option maxHeartbeats 4000000 in
theorem insert_none (B : Nat) (a : Option Addr) (n c : Nat) (l : List UInt8) (a2 : Option Addr) (c2 i : Nat) (w : World) (hO : Own w B a n c l) (hi : i ≤ n) :
    Calls Try.prog 81 #[.slice a n c, .int .i64 i, .slice a2 0 c2] w fun e w' => Turned w B a l e w' := by
  obtain ⟨a3, c3, hsl, -⟩ := hO.rd.slice_l i hi
  have HO : Hid (Own w B a n c l) := hO
  clear hO
  go_enter Try.func81, Try.ntmps81
  go_wp2
  go_ret
  exact ⟨_, _, _, rfl, HO.out, grown_refl _ _, .inl rfl⟩

set_option maxRecDepth 100000 in
set_option maxHeartbeats 4000000 in
theorem insert_end (B : Nat) (a : Option Addr) (n c : Nat) (l : List UInt8) (a2 : Option Addr) (m c2 : Nat) (r : List UInt8) (w : World) (hO : Own w B a n c l) (hV : Rd w a2 m c2 r) (hm : 0 < m) (hb : n + m ≤ 140737488355328) (hB : B ≤ w.heap.size) :
    Calls Try.prog 81 #[.slice a n c, .int .i64 n, .slice a2 m c2] w fun e w' => Turned w B a (l.take n ++ (r ++ l.drop n)) e w' := by
  obtain ⟨a3, c3, hsl, -⟩ := hO.rd.slice_l n (Nat.le_refl _)
  have HO : Hid (Own w B a n c l) := hO
  have HV : Hid (Rd w a2 m c2 r) := hV
  have HM : Hid (n + m ≤ 140737488355328) := hb
  have HB : Hid (B ≤ w.heap.size) := hB
  have HL : Hid (l.take n ++ (r ++ l.drop n) = l ++ r) := by
    have := hO.len
    show _ = _
    rw [List.take_of_length_le (by omega), List.drop_eq_nil_of_le (by omega), List.append_nil]
  clear hO hV
  have hz1 : ¬ ((m : Int) = 0) := by omega
  go_enter Try.func81, Try.ntmps81
  go_wp2_with (at_builtin; refine append_rowG rfl (.tmp 23) (.tmp 24) rfl B rfl HO.out rfl HV.out HM.out HB.out ?_; intro a4 n4 c4 w4 hn4 HO4 HG4 HW4; clear hn4)
  go_ret
  exact ⟨_, _, _, rfl, by rw [HL.out]; exact HO4.out, HG4.out, HW4.out⟩

theorem cell_of {w : World} {g : Nat} {cur : List Value} {l : List UInt8} {n : Nat} (hB : Bk w g cur) (ht : cur.take n = cells l) (i : Nat) (hl : l.length ≤ n) : ∀ j v, (cells (l.drop i))[j]? = some v → w.cell? ((⟨g, i, none⟩ : Addr).add j) = some v := by
  intro j v hv
  rw [add_flat, hB.cell]
  have hj : i + j < l.length := by
    rw [← cells_drop, List.getElem?_drop] at hv
    have := (List.getElem?_eq_some_iff.1 hv).1
    rwa [cells_len] at this
  rw [of_take ht _ (by omega)]
  rw [← cells_drop, List.getElem?_drop] at hv
  exact hv
theorem cell_all {w : World} {g : Nat} {cur : List Value} {l : List UInt8} {n : Nat} (hB : Bk w g cur) (ht : cur.take n = cells l) (hl : l.length ≤ n) : ∀ j v, (cells l)[j]? = some v → w.cell? ((⟨g, 0, none⟩ : Addr).add j) = some v := by
  intro j v hv
  exact cell_of hB ht 0 hl j v (by simpa using hv)

set_option maxRecDepth 100000 in
set_option maxHeartbeats 4000000 in
theorem insert_room (B : Nat) (g n c : Nat) (l : List UInt8) (h m c2 : Nat) (r : List UInt8) (i : Nat) (w : World) (cur cv : List Value) (hBg : B ≤ g) (hg : Bk w g cur) (hh : Bk w h cv) (hne : h ≠ g) (hn : n ≤ c) (hcm : c ≤ maxLen) (hcl : cur.length = c) (ht : cur.take n = cells l) (htv : cv.take m = cells r)
    (hl : l.length = n) (hr : r.length = m) (hi : i < n) (hm : 0 < m) (hroom : n + m ≤ c) :
    Calls Try.prog 81 #[.slice (some ⟨g, 0, none⟩) n c, .int .i64 i, .slice (some ⟨h, 0, none⟩) m c2] w fun e w' => Turned w B (some ⟨g, 0, none⟩) (l.take i ++ (r ++ l.drop i)) e w' := by
  unfold maxLen at hcm
  obtain ⟨t, hT⟩ : ∃ t, n + m = t := ⟨_, rfl⟩
  obtain ⟨k, hK⟩ : ∃ k, i + m = k := ⟨_, rfl⟩
  have hTi : (n : Int) + (m : Int) = t := by omega
  have hKi : (i : Int) + (m : Int) = k := by omega
  obtain ⟨o1, -, s1⟩ := slice_lo g n c i (by omega)
  have s2 := slice_hi g n c t (by omega)
  obtain ⟨o3, ho3, s3⟩ := slice_lo g t c k (by omega)
  obtain ⟨o4, ho4, s4⟩ := slice_lo g t c i (by omega)
  have hO3 : Hid (k < c → o3 = k) := ho3
  have hO4 : o4 = i := ho4 (by omega)
  subst hO4
  have hov := fun lb cb => apart_any hh hg hne (by omega) 0 o3 m c2 lb cb
  have HG : Hid (Bk w.drew g cur) := hg.drew
  have HH : Hid (Bk w h cv) := hh
  obtain ⟨X, hX⟩ : ∃ X, X = cells (l.drop o4) := ⟨_, rfl⟩
  obtain ⟨Y, hY⟩ : ∃ Y, Y = cells r := ⟨_, rfl⟩
  have hXl : X.length = n - o4 := by rw [hX, cells_len, List.length_drop]; omega
  have hYl : Y.length = m := by rw [hY, cells_len]; omega
  have HX1 : Hid (X.length = Nat.min (t - o4) (t - k)) := by show X.length = min _ _; rw [hXl, Nat.min_def]; split <;> omega
  have HX2 : Hid (CpOk w.drew (some (⟨g, o3, none⟩ : Addr)) (some (⟨g, o4, none⟩ : Addr)) g k X) := fun h0 =>
    ⟨by rw [ho3 (by omega)], _, rfl, by rw [hX]; exact cell_of hg.drew ht o4 (by omega)⟩
  have HX3 : Hid (k + X.length ≤ cur.length) := by show _ ≤ _; omega
  have HX4 : Hid (∀ v ∈ X, v.oneCell' = true) := by show ∀ _, _; rw [hX]; exact cells_one _
  have HY1 : Hid (Y.length = Nat.min m (t - o4)) := by show Y.length = min _ _; rw [hYl, Nat.min_def]; split <;> omega
  have HY4 : Hid (∀ v ∈ Y, v.oneCell' = true) := by show ∀ _, _; rw [hY]; exact cells_one _
  have HYs : Hid (∀ w1 : World, Bk w1 h cv → ∀ j v, Y[j]? = some v → w1.cell? ((⟨h, 0, none⟩ : Addr).add j) = some v) := by
    show ∀ _, _
    intro w1 h1
    rw [hY]; exact cell_all h1 htv (by omega)
  have HY3 : Hid (o4 + Y.length ≤ (splice cur k X).length) := by show _ ≤ _; rw [length_splice _ _ _ HX3.out]; omega
  have HL : Hid ((splice (splice cur k X) o4 Y).take t = cells (l.take o4 ++ (r ++ l.drop o4))) := by
    show _ = _
    rw [← hT, ← hK, hX, hY, cells_append, cells_append, ← cells_take, ← cells_drop]
    exact ins_place cur (cells l) (cells r) o4 m n ht (by rw [cells_len]; omega) (by rw [cells_len]; omega) (by omega) (by omega)
  have HC : Hid ((splice (splice cur k X) o4 Y).length = c) := by show _ = _; rw [length_splice _ _ _ HY3.out, length_splice _ _ _ HX3.out, hcl]
  have HN : Hid (some h ≠ some g) := fun e => hne (Option.some.inj e)
  have HBg : Hid (B ≤ g) := hBg
  have hz1 : ¬ ((m : Int) = 0) := by omega
  have hz2 : ¬ ((o4 : Int) = (n : Int)) := by omega
  have hw1 : IntKind.i64.wrap (k : Int) = k := by rw [IntKind.wrap_i64]; omega
  clear hX hY hXl hYl ht htv hcl hg hh ho3 ho4 hBg hne
  go_enter Try.func81, Try.ntmps81
  go_wp2_with (simp only [hov])
  go_region_law (refine step_copy_in rfl (.tmp 73) (.tmp 76) rfl (by simp [Act.eval, Act.put]; rfl) (by simp [Act.eval, Act.put]; rfl) g k cur HG.out X HX1.out HX2.out HX3.out HX4.out ?_; intro w1 HB1 HG1)
  have HY2 : Hid (CpOk w1 (some (⟨g, o4, none⟩ : Addr)) (some (⟨h, 0, none⟩ : Addr)) g o4 Y) := fun _ =>
    ⟨rfl, _, rfl, HYs.out w1 (HH.out.keep (drew_grown HG1.out) HN.out)⟩
  go_wp2_with (refine copy_in rfl (.tmp 80) (.tmp 81) rfl rfl rfl g o4 _ HB1.out Y HY1.out HY2.out HY3.out HY4.out ?_; intro w2 HB2 HG2)
  go_ret
  exact ⟨_, _, _, rfl, Own.of HBg.out HB2.out (by omega) (by unfold maxLen; omega) HC.out HL.out, grown_trans (drew_grown HG1.out) HG2.out, .inl rfl⟩

set_option maxRecDepth 100000 in
set_option maxHeartbeats 4000000 in
theorem insert_grow (B : Nat) (g n c : Nat) (l : List UInt8) (h m c2 : Nat) (r : List UInt8) (i : Nat) (w : World) (cur cv : List Value) (hBw : B ≤ w.heap.size) (hg : Bk w g cur) (hh : Bk w h cv) (hn : n ≤ c) (hcm : c ≤ maxLen) (hcl : cur.length = c) (ht : cur.take n = cells l) (htv : cv.take m = cells r)
    (hl : l.length = n) (hr : r.length = m) (hi : i < n) (hm : 0 < m) (hroom : c < n + m) (hb : n + m ≤ 140737488355328) :
    Calls Try.prog 81 #[.slice (some ⟨g, 0, none⟩) n c, .int .i64 i, .slice (some ⟨h, 0, none⟩) m c2] w fun e w' => Turned w B (some ⟨g, 0, none⟩) (l.take i ++ (r ++ l.drop i)) e w' := by
  unfold maxLen at hcm
  obtain ⟨t, hT⟩ : ∃ t, n + m = t := ⟨_, rfl⟩
  obtain ⟨k, hK⟩ : ∃ k, i + m = k := ⟨_, rfl⟩
  obtain ⟨q, hQ⟩ : ∃ q, t - i = q := ⟨_, rfl⟩
  have hTi : (n : Int) + (m : Int) = t := by omega
  have hKi : (i : Int) + (m : Int) = k := by omega
  have hQi : (t : Int) - (i : Int) = q := by omega
  have hct : (c : Int) < t := by omega
  obtain ⟨G, hG⟩ : ∃ G, w.heap.size = G := ⟨_, rfl⟩
  obtain ⟨o1, ho1, s1⟩ := slice_lo g n c i (by omega)
  have hO1 : o1 = i := ho1 (by omega)
  subst hO1
  have s2 := slice_hi g n c o1 (by omega)
  have HA1 : Hid (0 < q) := by show _ < _; omega
  have HA2 : Hid (o1 ≤ cur.length) := by show _ ≤ _; omega
  have HA3 : Hid (c < o1 + q) := by show _ < _; omega
  have HA4 : Hid (o1 + q ≤ 140737488355328) := by show _ ≤ _; omega
  have HG : Hid (Bk w g cur) := hg
  have HH : Hid (Bk w h cv) := hh
  obtain ⟨X, hX⟩ : ∃ X, X = cells (l.drop o1) := ⟨_, rfl⟩
  obtain ⟨Y, hY⟩ : ∃ Y, Y = cells r := ⟨_, rfl⟩
  have hXl : X.length = n - o1 := by rw [hX, cells_len, List.length_drop]; omega
  have hYl : Y.length = m := by rw [hY, cells_len]; omega
  have HX1 : Hid (X.length = Nat.min (n - o1) (t - k)) := by show X.length = min _ _; rw [hXl, Nat.min_def]; split <;> omega
  have HX4 : Hid (∀ v ∈ X, v.oneCell' = true) := by show ∀ _, _; rw [hX]; exact cells_one _
  have HXs : Hid (∀ w1 : World, Bk w1 g cur → ∀ j v, X[j]? = some v → w1.cell? ((⟨g, o1, none⟩ : Addr).add j) = some v) := by
    show ∀ _, _
    intro w1 h1
    rw [hX]; exact cell_of h1 ht o1 (by omega)
  have HXk : Hid (0 < X.length → k < t) := by show _ → _; omega
  have HXk2 : Hid (k + X.length = t) := by show _ = _; omega
  have HY1 : Hid (Y.length = Nat.min m q) := by show Y.length = min _ _; rw [hYl, Nat.min_def]; split <;> omega
  have HYk : Hid (o1 + Y.length ≤ t) := by show _ ≤ _; omega
  have HY4 : Hid (∀ v ∈ Y, v.oneCell' = true) := by show ∀ _, _; rw [hY]; exact cells_one _
  have HYs : Hid (∀ w1 : World, Bk w1 h cv → ∀ j v, Y[j]? = some v → w1.cell? ((⟨h, 0, none⟩ : Addr).add j) = some v) := by
    show ∀ _, _
    intro w1 h1
    rw [hY]; exact cell_all h1 htv (by omega)
  have HL : Hid (∀ Z : List Value, t ≤ o1 + Z.length → (splice (splice (cur.take o1 ++ Z) o1 Y) k X).take t = cells (l.take o1 ++ (r ++ l.drop o1))) := by
    show ∀ _, _
    intro Z hZ
    rw [← hT, ← hK, hX, hY, cells_append, cells_append, ← cells_take, ← cells_drop]
    have e : cur.take o1 = (cells l).take o1 := by rw [← ht, List.take_take, Nat.min_eq_left (by omega)]
    rw [e]
    exact ins_new Z (cells l) (cells r) o1 m n (by rw [cells_len]; omega) (by rw [cells_len]; omega) (by omega) (by omega)
  have HT : Hid (o1 + q = t) := by show _ = _; omega
  have HBw : Hid (B ≤ G) := by show _ ≤ _; omega
  have HGg : Hid (g < G) := by have := hg.lt; show _ < _; omega
  have HGh : Hid (h < G) := by have := hh.lt; show _ < _; omega
  have HGe : Hid (w.heap.size = G) := hG
  have hz1 : ¬ ((m : Int) = 0) := by omega
  have hz2 : ¬ ((o1 : Int) = (n : Int)) := by omega
  have hw1 : IntKind.i64.wrap (k : Int) = k := by rw [IntKind.wrap_i64]; omega
  have hkt : k ≤ t := by omega
  have hot : o1 ≤ t := by omega
  clear hX hY hXl hYl ht htv hcl hg hh ho1 hG hQ
  go_enter Try.func81, Try.ntmps81
  go_wp2_with (at_builtin; refine append_zeros rfl (.tmp 34) (.tmp 39) rfl rfl rfl q rfl HA1.out cur HG.out HA2.out HA3.out HA4.out ?_; intro c3 w1 hc3 hc4 HB1 HG1)
  rw [HGe.out] at HB1
  rw [HT.out] at hc3
  rw [HGe.out, HT.out]
  unfold maxLen at hc4
  obtain ⟨o3, ho3, s3⟩ := slice_lo G t c3 o1 (by omega)
  obtain ⟨o4, ho4, s4⟩ := slice_lo G t c3 k (by omega)
  have hO3 : o3 = o1 := ho3 (by omega)
  subst hO3
  have HZ : Hid ((cur.take o3 ++ List.replicate (c3 - o3) (Value.int .u8 0)).length = c3) := by
    have := HA2.out
    show _ = _
    rw [List.length_append, List.length_take, List.length_replicate]; omega
  have HZ2 : Hid (t ≤ o3 + (List.replicate (c3 - o3) (Value.int .u8 0)).length) := by show _ ≤ _; rw [List.length_replicate]; omega
  obtain ⟨Z, hZ⟩ : ∃ Z, List.replicate (c3 - o3) (Value.int .u8 0) = Z := ⟨_, rfl⟩
  rw [hZ] at HB1 HZ HZ2
  obtain ⟨C0, hC0⟩ : ∃ C0, cur.take o3 ++ Z = C0 := ⟨_, rfl⟩
  have HLL := HL.out Z HZ2.out
  rw [hC0] at HB1 HZ HLL
  have HLL' : Hid ((splice (splice C0 o3 Y) k X).take t = cells (l.take o3 ++ (r ++ l.drop o3))) := HLL
  have HY2 : Hid (CpOk w1 (some (⟨G, o3, none⟩ : Addr)) (some (⟨h, 0, none⟩ : Addr)) G o3 Y) := fun _ =>
    ⟨rfl, _, rfl, HYs.out w1 (HH.out.keep HG1.out (by simp))⟩
  have HY3 : Hid (o3 + Y.length ≤ C0.length) := by
    have := HYk.out
    have := HZ.out
    show _ ≤ _
    omega
  clear HLL hZ hC0 HZ2 ho3
  obtain ⟨w2, hr2, hB2, hG2⟩ := run_copy_in w1 _ _ q (c3 - o3) m c2 G o3 C0 HB1.out Y HY1.out HY2.out HY3.out HY4.out
  have HB2 : Hid (Bk w2 G (splice C0 o3 Y)) := hB2
  have HG2 : Hid (w1.grownBy w2 (some G)) := hG2
  clear hB2 hG2
  go_wp2_with (simp only [hr2])
  have HGd : Hid (Bk w2.drew G (splice C0 o3 Y)) := HB2.out.drew
  have HX2 : Hid (CpOk w2.drew (some (⟨G, o4, none⟩ : Addr)) (some (⟨g, o3, none⟩ : Addr)) G k X) := fun h0 =>
    ⟨by have := HXk.out h0; rw [ho4 (by omega)], _, rfl, HXs.out w2.drew ((HG.out.keep HG1.out (by simp)).keep HG2.out (by intro e; have := Option.some.inj e; have := HGg.out; omega)).drew⟩
  have HX3 : Hid (k + X.length ≤ (splice C0 o3 Y).length) := by
    have := HXk2.out
    have := HZ.out
    show _ ≤ _
    rw [length_splice _ _ _ HY3.out]; omega
  go_region_law (refine step_copy_in rfl (.tmp 50) (.tmp 53) rfl (by simp [Act.eval, Act.put]; rfl) (by simp [Act.eval, Act.put]; rfl) G k _ HGd.out X HX1.out HX2.out HX3.out HX4.out ?_; intro w3 HB3 HG3)
  go_wp2
  go_ret
  refine ⟨_, _, _, rfl, Own.of HBw.out HB3.out hc3 (by unfold maxLen; omega) (by rw [length_splice _ _ _ HX3.out, length_splice _ _ _ HY3.out]; exact HZ.out) HLL'.out, ?_, .inr ⟨_, rfl, Nat.le_of_eq HGe.out⟩⟩
  have e1 : w.grownBy w1 (Option.map (fun x => x.block) (some (⟨g, 0, none⟩ : Addr))) := ⟨HG1.out.os, HG1.out.tape, HG1.out.output, HG1.out.size, fun k hk _ => HG1.out.block k hk (by simp)⟩
  exact grown_new (grown_new e1 (by have := HGe.out; omega) HG2.out) (by have := HGe.out; omega) (drew_grown HG3.out)

/-- slices.Insert. -/
theorem Insert_sl (B C : Nat) (a : Option Addr) (n c : Nat) (l : List UInt8) (a2 : Option Addr) (m c2 : Nat) (r : List UInt8) (i : Nat) (w : World) (hO : Own w B a n c l) (hV : Own w C a2 m c2 r) (hC : ∀ x, a = some x → x.block < C) (hi : i ≤ n) (hb : n + m ≤ 140737488355328) (hB : B ≤ w.heap.size) :
    Calls Try.prog 81 #[.slice a n c, .int .i64 i, .slice a2 m c2] w fun e w' => Turned w B a (l.take i ++ (r ++ l.drop i)) e w' := by
  have hl := hO.len
  have hr := hV.len
  by_cases hm : m = 0
  · subst hm
    have h0 : r = [] := List.length_eq_zero_iff.1 hr
    subst h0
    rw [List.nil_append, List.take_append_drop]
    exact insert_none B a n c l a2 c2 i w hO hi
  · by_cases hin : i = n
    · subst hin
      exact insert_end B a i c l a2 m c2 r w hO hV.rd (by omega) hb hB
    · obtain ⟨g, cur, rfl, h1, h2, h3, h4, h5, h6⟩ := hO.parts (by omega)
      obtain ⟨h, cv, rfl, k1, k2, k3, k4, k5, k6⟩ := hV.parts (by omega)
      have hne : h ≠ g := by have := hC _ rfl; simp at this; omega
      by_cases hroom : n + m ≤ c
      · exact insert_room B g n c l h m c2 r i w cur cv h1 h2 k2 hne h3 h4 h5 h6 k6 hl hr (by omega) (by omega) hroom
      · exact insert_grow B g n c l h m c2 r i w cur cv hB h2 k2 h3 h4 h5 h6 k6 hl hr (by omega) (by omega) (by omega) hb
end Go.Proofs.Ytemiajjjhhofaab
