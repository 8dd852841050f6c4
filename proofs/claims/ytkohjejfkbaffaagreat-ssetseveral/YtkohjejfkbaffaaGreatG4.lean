/-
  slices.Insert at []byte: the row with v ahead of place i.
  parts of rows: the row without the bytes from i to j.
  slices.Replace at []byte: the row with v in the place of the bytes from i to j.
  slices.Replace at []byte, what fits.
  slices.Replace at []byte, what wants a new row.
  slices.Replace at []byte by nothing.
  slices.Replace at []byte, all of it.
  Regions that draw their order and hold a call that makes memory: one walk, in every world that has more at its end alone.
-/
import Derived.Test.YtkohjejfkbaffaaGreatG3
namespace Go.Proofs.YtkohjejfkbaffaaGreat
open Go.RowKit Go.PlainAid

/-- What a call answers that turns a row. -/
def Turned (w : World) (B : Nat) (a : Option Addr) (l : List UInt8) (e : Ending) (w' : World) : Prop :=
  ∃ a' n' c', e = .returned (.slice a' n' c') ∧ Own w' B a' n' c' l ∧ w.grownBy w' (a.map (·.block)) ∧ Went w a a'

theorem splice_get (L : List Value) (off : Nat) (cs : List Value) (h : off + cs.length ≤ L.length) (j : Nat) : (splice L off cs)[j]? = if j < off then L[j]? else if j < off + cs.length then cs[j - off]? else L[j]? := by
  unfold splice
  rw [List.getElem?_append, List.length_take, Nat.min_eq_left (by omega)]
  split
  · rw [List.getElem?_take, if_pos (by assumption)]
  · rw [List.getElem?_append]
    split
    · rw [if_pos (by omega)]
    · rw [if_neg (by omega), List.getElem?_drop]; congr 1; omega
theorem get_take (L : List Value) (n j : Nat) : (L.take n)[j]? = if j < n then L[j]? else none := List.getElem?_take
theorem of_take {cur L : List Value} {n : Nat} (h : cur.take n = L) (j : Nat) (hj : j < n) : cur[j]? = L[j]? := by rw [← h, List.getElem?_take, if_pos hj]

theorem ins_place (cur L R : List Value) (i m n : Nat) (h : cur.take n = L) (hL : L.length = n) (hR : R.length = m) (hc : n + m ≤ cur.length) (hi : i ≤ n) :
    (splice (splice cur (i + m) (L.drop i)) i R).take (n + m) = L.take i ++ (R ++ L.drop i) := by
  have h1 : (splice cur (i + m) (L.drop i)).length = cur.length := length_splice _ _ _ (by rw [List.length_drop]; omega)
  apply List.ext_getElem?
  intro j
  rw [get_take, splice_get _ _ _ (by rw [h1]; omega), splice_get _ _ _ (by rw [List.length_drop]; omega), List.getElem?_append, List.getElem?_append, List.length_take, List.length_drop, Nat.min_eq_left (by omega), get_take, List.getElem?_drop, List.getElem?_drop]
  have ho := of_take h j
  split
  · split
    · rw [if_pos (by omega), ← ho (by omega)]
    · split
      · rw [if_pos (by omega)]
      · rw [if_neg (by omega), if_pos (by omega), if_neg (by omega)]; congr 1; omega
  · rw [if_neg (by omega), if_neg (by omega), List.getElem?_eq_none (by omega)]
theorem ins_new (Z L R : List Value) (i m n : Nat) (hL : L.length = n) (hR : R.length = m) (hZ : n + m ≤ i + Z.length) (hi : i ≤ n) :
    (splice (splice (L.take i ++ Z) i R) (i + m) (L.drop i)).take (n + m) = L.take i ++ (R ++ L.drop i) := by
  have h0 : (L.take i ++ Z).length = i + Z.length := by rw [List.length_append, List.length_take]; omega
  have h1 : (splice (L.take i ++ Z) i R).length = i + Z.length := by rw [length_splice _ _ _ (by omega), h0]
  apply List.ext_getElem?
  intro j
  rw [get_take, splice_get _ _ _ (by rw [h1, List.length_drop]; omega), splice_get _ _ _ (by omega), List.getElem?_append, List.getElem?_append, List.getElem?_append, List.length_take, List.length_drop, Nat.min_eq_left (by omega), get_take, List.getElem?_drop, List.getElem?_drop]
  split
  · split
    · split
      · rfl
      · rw [if_pos (by omega), if_pos (by omega)]
    · rw [if_pos (by omega), if_neg (by omega), if_neg (by omega)]; congr 1; omega
  · rw [if_neg (by omega), if_neg (by omega), List.getElem?_eq_none (by omega)]

theorem cells_len (l : List UInt8) : (cells l).length = l.length := List.length_map ..
theorem cells_take (l : List UInt8) (n : Nat) : (cells l).take n = cells (l.take n) := (List.map_take ..).symm
theorem cells_drop (l : List UInt8) (n : Nat) : (cells l).drop n = cells (l.drop n) := (List.map_drop ..).symm

/-- Two rows in two blocks don't overlap. -/
theorem apart_any {w : World} {g h : Nat} {cg ch : List Value} (hg : Bk w g cg) (hh : Bk w h ch) (hne : g ≠ h) (hpos : ch.length ≠ 0) (o o' la ca lb cb : Nat) :
    (callFunc 100 #[.slice (some ⟨g, o, none⟩) la ca, .slice (some ⟨h, o', none⟩) lb cb]).run Tryz.prog w = .ok (.value (.bool false)) w := by
  rw [run_callFunc_extern Tryz.func100 (by kernel_rfl) (by kernel_rfl) (by kernel_rfl) (e := Extern.SlicesOverlaps.overlaps #[23, 23] #[4]) (by kernel_rfl),
      Lib.run_overlaps_apart w 23 4 5 Tryz.underlying23 1 Tryz.size5 ⟨g, o, none⟩ ⟨h, o', none⟩ la ca lb cb hne 5 5 _ _ hg.shape hh.shape hpos (hg.frozen _) (hg.frozen _)]
  rfl

set_option maxRecDepth 100000 in
set_option maxHeartbeats 4000000 in
theorem insert_none (B : Nat) (a : Option Addr) (n c : Nat) (l : List UInt8) (a2 : Option Addr) (c2 i : Nat) (w : World) (hO : Own w B a n c l) (hi : i ≤ n) :
    Calls Tryz.prog 99 #[.slice a n c, .int .i64 i, .slice a2 0 c2] w fun e w' => Turned w B a l e w' := by
  obtain ⟨a3, c3, hsl, -⟩ := hO.rd.slice_l i hi
  have HO : Hid (Own w B a n c l) := hO
  clear hO
  go_enter Tryz.func99, Tryz.ntmps99
  go_wp2
  go_ret
  exact ⟨_, _, _, rfl, HO.out, grown_refl _ _, .inl rfl⟩

set_option maxRecDepth 100000 in
set_option maxHeartbeats 4000000 in
theorem insert_end (B : Nat) (a : Option Addr) (n c : Nat) (l : List UInt8) (a2 : Option Addr) (m c2 : Nat) (r : List UInt8) (w : World) (hO : Own w B a n c l) (hV : Rd w a2 m c2 r) (hm : 0 < m) (hb : n + m ≤ 140737488355328) (hB : B ≤ w.heap.size) :
    Calls Tryz.prog 99 #[.slice a n c, .int .i64 n, .slice a2 m c2] w fun e w' => Turned w B a (l.take n ++ (r ++ l.drop n)) e w' := by
  obtain ⟨a3, c3, hsl, -⟩ := hO.rd.slice_l n (Nat.le_refl _)
  have HO : Hid (Own w B a n c l) := hO
  have HV : Hid (Rd w a2 m c2 r) := hV
  have HM : Hid (n + m ≤ 140737488355328) := hb
  have HB : Hid (B ≤ w.heap.size) := hB
  have HL : Hid (l.take n ++ (r ++ l.drop n) = l ++ r) := by
    have := hO.len
    show _ = _
    rw [List.take_of_length_le (by omega), List.drop_eq_nil_of_le (by omega), List.append_nil]
  clear hO hV
  have hz1 : ¬ ((m : Int) = 0) := by omega
  go_enter Tryz.func99, Tryz.ntmps99
  go_wp2_with (at_builtin; refine append_rowG rfl (.tmp 23) (.tmp 24) rfl B rfl HO.out rfl HV.out HM.out HB.out ?_; intro a4 n4 c4 w4 hn4 HO4 HG4 HW4; clear hn4)
  go_ret
  exact ⟨_, _, _, rfl, by rw [HL.out]; exact HO4.out, HG4.out, HW4.out⟩

theorem cell_of {w : World} {g : Nat} {cur : List Value} {l : List UInt8} {n : Nat} (hB : Bk w g cur) (ht : cur.take n = cells l) (i : Nat) (hl : l.length ≤ n) : ∀ j v, (cells (l.drop i))[j]? = some v → w.cell? ((⟨g, i, none⟩ : Addr).add j) = some v := by
  intro j v hv
  rw [add_flat, hB.cell]
  have hj : i + j < l.length := by
    rw [← cells_drop, List.getElem?_drop] at hv
    have := (List.getElem?_eq_some_iff.1 hv).1
    rwa [cells_len] at this
  rw [of_take ht _ (by omega)]
  rw [← cells_drop, List.getElem?_drop] at hv
  exact hv
theorem cell_all {w : World} {g : Nat} {cur : List Value} {l : List UInt8} {n : Nat} (hB : Bk w g cur) (ht : cur.take n = cells l) (hl : l.length ≤ n) : ∀ j v, (cells l)[j]? = some v → w.cell? ((⟨g, 0, none⟩ : Addr).add j) = some v := by
  intro j v hv
  exact cell_of hB ht 0 hl j v (by simpa using hv)

set_option maxRecDepth 100000 in
set_option maxHeartbeats 4000000 in
theorem insert_room (B : Nat) (g n c : Nat) (l : List UInt8) (h m c2 : Nat) (r : List UInt8) (i : Nat) (w : World) (cur cv : List Value) (hBg : B ≤ g) (hg : Bk w g cur) (hh : Bk w h cv) (hne : h ≠ g) (hn : n ≤ c) (hcm : c ≤ maxLen) (hcl : cur.length = c) (ht : cur.take n = cells l) (htv : cv.take m = cells r)
    (hl : l.length = n) (hr : r.length = m) (hi : i < n) (hm : 0 < m) (hroom : n + m ≤ c) :
    Calls Tryz.prog 99 #[.slice (some ⟨g, 0, none⟩) n c, .int .i64 i, .slice (some ⟨h, 0, none⟩) m c2] w fun e w' => Turned w B (some ⟨g, 0, none⟩) (l.take i ++ (r ++ l.drop i)) e w' := by
  unfold maxLen at hcm
  obtain ⟨t, hT⟩ : ∃ t, n + m = t := ⟨_, rfl⟩
  obtain ⟨k, hK⟩ : ∃ k, i + m = k := ⟨_, rfl⟩
  have hTi : (n : Int) + (m : Int) = t := by omega
  have hKi : (i : Int) + (m : Int) = k := by omega
  obtain ⟨o1, -, s1⟩ := slice_lo g n c i (by omega)
  have s2 := slice_hi g n c t (by omega)
  obtain ⟨o3, ho3, s3⟩ := slice_lo g t c k (by omega)
  obtain ⟨o4, ho4, s4⟩ := slice_lo g t c i (by omega)
  have hO3 : Hid (k < c → o3 = k) := ho3
  have hO4 : o4 = i := ho4 (by omega)
  subst hO4
  have hov := fun lb cb => apart_any hh hg hne (by omega) 0 o3 m c2 lb cb
  have HG : Hid (Bk w.drew g cur) := hg.drew
  have HH : Hid (Bk w h cv) := hh
  obtain ⟨X, hX⟩ : ∃ X, X = cells (l.drop o4) := ⟨_, rfl⟩
  obtain ⟨Y, hY⟩ : ∃ Y, Y = cells r := ⟨_, rfl⟩
  have hXl : X.length = n - o4 := by rw [hX, cells_len, List.length_drop]; omega
  have hYl : Y.length = m := by rw [hY, cells_len]; omega
  have HX1 : Hid (X.length = Nat.min (t - o4) (t - k)) := by show X.length = min _ _; rw [hXl, Nat.min_def]; split <;> omega
  have HX2 : Hid (CpOk w.drew (some (⟨g, o3, none⟩ : Addr)) (some (⟨g, o4, none⟩ : Addr)) g k X) := fun h0 =>
    ⟨by rw [ho3 (by omega)], _, rfl, by rw [hX]; exact cell_of hg.drew ht o4 (by omega)⟩
  have HX3 : Hid (k + X.length ≤ cur.length) := by show _ ≤ _; omega
  have HX4 : Hid (∀ v ∈ X, v.oneCell' = true) := by show ∀ _, _; rw [hX]; exact cells_one _
  have HY1 : Hid (Y.length = Nat.min m (t - o4)) := by show Y.length = min _ _; rw [hYl, Nat.min_def]; split <;> omega
  have HY4 : Hid (∀ v ∈ Y, v.oneCell' = true) := by show ∀ _, _; rw [hY]; exact cells_one _
  have HYs : Hid (∀ w1 : World, Bk w1 h cv → ∀ j v, Y[j]? = some v → w1.cell? ((⟨h, 0, none⟩ : Addr).add j) = some v) := by
    show ∀ _, _
    intro w1 h1
    rw [hY]; exact cell_all h1 htv (by omega)
  have HY3 : Hid (o4 + Y.length ≤ (splice cur k X).length) := by show _ ≤ _; rw [length_splice _ _ _ HX3.out]; omega
  have HL : Hid ((splice (splice cur k X) o4 Y).take t = cells (l.take o4 ++ (r ++ l.drop o4))) := by
    show _ = _
    rw [← hT, ← hK, hX, hY, cells_append, cells_append, ← cells_take, ← cells_drop]
    exact ins_place cur (cells l) (cells r) o4 m n ht (by rw [cells_len]; omega) (by rw [cells_len]; omega) (by omega) (by omega)
  have HC : Hid ((splice (splice cur k X) o4 Y).length = c) := by show _ = _; rw [length_splice _ _ _ HY3.out, length_splice _ _ _ HX3.out, hcl]
  have HN : Hid (some h ≠ some g) := fun e => hne (Option.some.inj e)
  have HBg : Hid (B ≤ g) := hBg
  have hz1 : ¬ ((m : Int) = 0) := by omega
  have hz2 : ¬ ((o4 : Int) = (n : Int)) := by omega
  have hw1 : IntKind.i64.wrap (k : Int) = k := by rw [IntKind.wrap_i64]; omega
  clear hX hY hXl hYl ht htv hcl hg hh ho3 ho4 hBg hne
  go_enter Tryz.func99, Tryz.ntmps99
  go_wp2_with (simp only [hov])
  go_region_law (refine step_copy_in rfl (.tmp 73) (.tmp 76) rfl (by simp [Act.eval, Act.put]; rfl) (by simp [Act.eval, Act.put]; rfl) g k cur HG.out X HX1.out HX2.out HX3.out HX4.out ?_; intro w1 HB1 HG1)
  have HY2 : Hid (CpOk w1 (some (⟨g, o4, none⟩ : Addr)) (some (⟨h, 0, none⟩ : Addr)) g o4 Y) := fun _ =>
    ⟨rfl, _, rfl, HYs.out w1 (HH.out.keep (drew_grown HG1.out) HN.out)⟩
  go_wp2_with (refine copy_in rfl (.tmp 80) (.tmp 81) rfl rfl rfl g o4 _ HB1.out Y HY1.out HY2.out HY3.out HY4.out ?_; intro w2 HB2 HG2)
  go_ret
  exact ⟨_, _, _, rfl, Own.of HBg.out HB2.out (by omega) (by unfold maxLen; omega) HC.out HL.out, grown_trans (drew_grown HG1.out) HG2.out, .inl rfl⟩

set_option maxRecDepth 100000 in
set_option maxHeartbeats 4000000 in
theorem insert_grow (B : Nat) (g n c : Nat) (l : List UInt8) (h m c2 : Nat) (r : List UInt8) (i : Nat) (w : World) (cur cv : List Value) (hBw : B ≤ w.heap.size) (hg : Bk w g cur) (hh : Bk w h cv) (hn : n ≤ c) (hcm : c ≤ maxLen) (hcl : cur.length = c) (ht : cur.take n = cells l) (htv : cv.take m = cells r)
    (hl : l.length = n) (hr : r.length = m) (hi : i < n) (hm : 0 < m) (hroom : c < n + m) (hb : n + m ≤ 140737488355328) :
    Calls Tryz.prog 99 #[.slice (some ⟨g, 0, none⟩) n c, .int .i64 i, .slice (some ⟨h, 0, none⟩) m c2] w fun e w' => Turned w B (some ⟨g, 0, none⟩) (l.take i ++ (r ++ l.drop i)) e w' := by
  unfold maxLen at hcm
  obtain ⟨t, hT⟩ : ∃ t, n + m = t := ⟨_, rfl⟩
  obtain ⟨k, hK⟩ : ∃ k, i + m = k := ⟨_, rfl⟩
  obtain ⟨q, hQ⟩ : ∃ q, t - i = q := ⟨_, rfl⟩
  have hTi : (n : Int) + (m : Int) = t := by omega
  have hKi : (i : Int) + (m : Int) = k := by omega
  have hQi : (t : Int) - (i : Int) = q := by omega
  have hct : (c : Int) < t := by omega
  obtain ⟨G, hG⟩ : ∃ G, w.heap.size = G := ⟨_, rfl⟩
  obtain ⟨o1, ho1, s1⟩ := slice_lo g n c i (by omega)
  have hO1 : o1 = i := ho1 (by omega)
  subst hO1
  have s2 := slice_hi g n c o1 (by omega)
  have HA1 : Hid (0 < q) := by show _ < _; omega
  have HA2 : Hid (o1 ≤ cur.length) := by show _ ≤ _; omega
  have HA3 : Hid (c < o1 + q) := by show _ < _; omega
  have HA4 : Hid (o1 + q ≤ 140737488355328) := by show _ ≤ _; omega
  have HG : Hid (Bk w g cur) := hg
  have HH : Hid (Bk w h cv) := hh
  obtain ⟨X, hX⟩ : ∃ X, X = cells (l.drop o1) := ⟨_, rfl⟩
  obtain ⟨Y, hY⟩ : ∃ Y, Y = cells r := ⟨_, rfl⟩
  have hXl : X.length = n - o1 := by rw [hX, cells_len, List.length_drop]; omega
  have hYl : Y.length = m := by rw [hY, cells_len]; omega
  have HX1 : Hid (X.length = Nat.min (n - o1) (t - k)) := by show X.length = min _ _; rw [hXl, Nat.min_def]; split <;> omega
  have HX4 : Hid (∀ v ∈ X, v.oneCell' = true) := by show ∀ _, _; rw [hX]; exact cells_one _
  have HXs : Hid (∀ w1 : World, Bk w1 g cur → ∀ j v, X[j]? = some v → w1.cell? ((⟨g, o1, none⟩ : Addr).add j) = some v) := by
    show ∀ _, _
    intro w1 h1
    rw [hX]; exact cell_of h1 ht o1 (by omega)
  have HXk : Hid (0 < X.length → k < t) := by show _ → _; omega
  have HXk2 : Hid (k + X.length = t) := by show _ = _; omega
  have HY1 : Hid (Y.length = Nat.min m q) := by show Y.length = min _ _; rw [hYl, Nat.min_def]; split <;> omega
  have HYk : Hid (o1 + Y.length ≤ t) := by show _ ≤ _; omega
  have HY4 : Hid (∀ v ∈ Y, v.oneCell' = true) := by show ∀ _, _; rw [hY]; exact cells_one _
  have HYs : Hid (∀ w1 : World, Bk w1 h cv → ∀ j v, Y[j]? = some v → w1.cell? ((⟨h, 0, none⟩ : Addr).add j) = some v) := by
    show ∀ _, _
    intro w1 h1
    rw [hY]; exact cell_all h1 htv (by omega)
  have HL : Hid (∀ Z : List Value, t ≤ o1 + Z.length → (splice (splice (cur.take o1 ++ Z) o1 Y) k X).take t = cells (l.take o1 ++ (r ++ l.drop o1))) := by
    show ∀ _, _
    intro Z hZ
    rw [← hT, ← hK, hX, hY, cells_append, cells_append, ← cells_take, ← cells_drop]
    have e : cur.take o1 = (cells l).take o1 := by rw [← ht, List.take_take, Nat.min_eq_left (by omega)]
    rw [e]
    exact ins_new Z (cells l) (cells r) o1 m n (by rw [cells_len]; omega) (by rw [cells_len]; omega) (by omega) (by omega)
  have HT : Hid (o1 + q = t) := by show _ = _; omega
  have HBw : Hid (B ≤ G) := by show _ ≤ _; omega
  have HGg : Hid (g < G) := by have := hg.lt; show _ < _; omega
  have HGh : Hid (h < G) := by have := hh.lt; show _ < _; omega
  have HGe : Hid (w.heap.size = G) := hG
  have hz1 : ¬ ((m : Int) = 0) := by omega
  have hz2 : ¬ ((o1 : Int) = (n : Int)) := by omega
  have hw1 : IntKind.i64.wrap (k : Int) = k := by rw [IntKind.wrap_i64]; omega
  have hkt : k ≤ t := by omega
  have hot : o1 ≤ t := by omega
  clear hX hY hXl hYl ht htv hcl hg hh ho1 hG hQ
  go_enter Tryz.func99, Tryz.ntmps99
  go_wp2_with (at_builtin; refine append_zeros rfl (.tmp 34) (.tmp 39) rfl rfl rfl q rfl HA1.out cur HG.out HA2.out HA3.out HA4.out ?_; intro c3 w1 hc3 hc4 HB1 HG1)
  rw [HGe.out] at HB1
  rw [HT.out] at hc3
  rw [HGe.out, HT.out]
  unfold maxLen at hc4
  obtain ⟨o3, ho3, s3⟩ := slice_lo G t c3 o1 (by omega)
  obtain ⟨o4, ho4, s4⟩ := slice_lo G t c3 k (by omega)
  have hO3 : o3 = o1 := ho3 (by omega)
  subst hO3
  have HZ : Hid ((cur.take o3 ++ List.replicate (c3 - o3) (Value.int .u8 0)).length = c3) := by
    have := HA2.out
    show _ = _
    rw [List.length_append, List.length_take, List.length_replicate]; omega
  have HZ2 : Hid (t ≤ o3 + (List.replicate (c3 - o3) (Value.int .u8 0)).length) := by show _ ≤ _; rw [List.length_replicate]; omega
  obtain ⟨Z, hZ⟩ : ∃ Z, List.replicate (c3 - o3) (Value.int .u8 0) = Z := ⟨_, rfl⟩
  rw [hZ] at HB1 HZ HZ2
  obtain ⟨C0, hC0⟩ : ∃ C0, cur.take o3 ++ Z = C0 := ⟨_, rfl⟩
  have HLL := HL.out Z HZ2.out
  rw [hC0] at HB1 HZ HLL
  have HLL' : Hid ((splice (splice C0 o3 Y) k X).take t = cells (l.take o3 ++ (r ++ l.drop o3))) := HLL
  have HY2 : Hid (CpOk w1 (some (⟨G, o3, none⟩ : Addr)) (some (⟨h, 0, none⟩ : Addr)) G o3 Y) := fun _ =>
    ⟨rfl, _, rfl, HYs.out w1 (HH.out.keep HG1.out (by simp))⟩
  have HY3 : Hid (o3 + Y.length ≤ C0.length) := by
    have := HYk.out
    have := HZ.out
    show _ ≤ _
    omega
  clear HLL hZ hC0 HZ2 ho3
  obtain ⟨w2, hr2, hB2, hG2⟩ := run_copy_in w1 _ _ q (c3 - o3) m c2 G o3 C0 HB1.out Y HY1.out HY2.out HY3.out HY4.out
  have HB2 : Hid (Bk w2 G (splice C0 o3 Y)) := hB2
  have HG2 : Hid (w1.grownBy w2 (some G)) := hG2
  clear hB2 hG2
  go_wp2_with (simp only [hr2])
  have HGd : Hid (Bk w2.drew G (splice C0 o3 Y)) := HB2.out.drew
  have HX2 : Hid (CpOk w2.drew (some (⟨G, o4, none⟩ : Addr)) (some (⟨g, o3, none⟩ : Addr)) G k X) := fun h0 =>
    ⟨by have := HXk.out h0; rw [ho4 (by omega)], _, rfl, HXs.out w2.drew ((HG.out.keep HG1.out (by simp)).keep HG2.out (by intro e; have := Option.some.inj e; have := HGg.out; omega)).drew⟩
  have HX3 : Hid (k + X.length ≤ (splice C0 o3 Y).length) := by
    have := HXk2.out
    have := HZ.out
    show _ ≤ _
    rw [length_splice _ _ _ HY3.out]; omega
  go_region_law (refine step_copy_in rfl (.tmp 50) (.tmp 53) rfl (by simp [Act.eval, Act.put]; rfl) (by simp [Act.eval, Act.put]; rfl) G k _ HGd.out X HX1.out HX2.out HX3.out HX4.out ?_; intro w3 HB3 HG3)
  go_wp2
  go_ret
  refine ⟨_, _, _, rfl, Own.of HBw.out HB3.out hc3 (by unfold maxLen; omega) (by rw [length_splice _ _ _ HX3.out, length_splice _ _ _ HY3.out]; exact HZ.out) HLL'.out, ?_, .inr ⟨_, rfl, Nat.le_of_eq HGe.out⟩⟩
  have e1 : w.grownBy w1 (Option.map (fun x => x.block) (some (⟨g, 0, none⟩ : Addr))) := ⟨HG1.out.os, HG1.out.tape, HG1.out.output, HG1.out.size, fun k hk _ => HG1.out.block k hk (by simp)⟩
  exact grown_new (grown_new e1 (by have := HGe.out; omega) HG2.out) (by have := HGe.out; omega) (drew_grown HG3.out)

/-- slices.Insert. -/
theorem Insert_sl (B C : Nat) (a : Option Addr) (n c : Nat) (l : List UInt8) (a2 : Option Addr) (m c2 : Nat) (r : List UInt8) (i : Nat) (w : World) (hO : Own w B a n c l) (hV : Own w C a2 m c2 r) (hC : ∀ x, a = some x → x.block < C) (hi : i ≤ n) (hb : n + m ≤ 140737488355328) (hB : B ≤ w.heap.size) :
    Calls Tryz.prog 99 #[.slice a n c, .int .i64 i, .slice a2 m c2] w fun e w' => Turned w B a (l.take i ++ (r ++ l.drop i)) e w' := by
  have hl := hO.len
  have hr := hV.len
  by_cases hm : m = 0
  · subst hm
    have h0 : r = [] := List.length_eq_zero_iff.1 hr
    subst h0
    rw [List.nil_append, List.take_append_drop]
    exact insert_none B a n c l a2 c2 i w hO hi
  · by_cases hin : i = n
    · subst hin
      exact insert_end B a i c l a2 m c2 r w hO hV.rd (by omega) hb hB
    · obtain ⟨g, cur, rfl, h1, h2, h3, h4, h5, h6⟩ := hO.parts (by omega)
      obtain ⟨h, cv, rfl, k1, k2, k3, k4, k5, k6⟩ := hV.parts (by omega)
      have hne : h ≠ g := by have := hC _ rfl; simp at this; omega
      by_cases hroom : n + m ≤ c
      · exact insert_room B g n c l h m c2 r i w cur cv h1 h2 k2 hne h3 h4 h5 h6 k6 hl hr (by omega) (by omega) hroom
      · exact insert_grow B g n c l h m c2 r i w cur cv hB h2 k2 h3 h4 h5 h6 k6 hl hr (by omega) (by omega) (by omega) hb
end Go.Proofs.YtkohjejfkbaffaaGreat

namespace Go.Proofs.YtkohjejfkbaffaaGreat
open Go.RowKit Go.PlainAid

theorem run_append_in (w : World) (g n c : Nat) (cur : List Value) (hB : Bk w g cur) (hc : cur.length = c) (ad : Addr) (m xc : Nat) (cs : List Value) (hm : cs.length = m) (hsrc : ∀ j v, cs[j]? = some v → w.cell? (ad.add j) = some v) (h1 : ∀ v ∈ cs, v.oneCell' = true) (hroom : n + m ≤ c) :
    ∃ w', (∀ ty, (Builtin.append_ #[23, 23] ty #[.slice (some ⟨g, 0, none⟩) n c, .slice (some ad) m xc]).run Tryz.prog w = .ok (.slice (some ⟨g, 0, none⟩) (n + m) c) w') ∧ Bk w' g (splice cur n cs) ∧ w.grownBy w' (some g) := by
  obtain ⟨i0, hi, hz0, hz1, hz2⟩ := info_parts Tryz.info5
  have hb := bk_cells cs n w cur hB (by omega)
  refine ⟨_, fun ty => ?_, hb.1, hb.2⟩
  have hrun := run_append_room_cells (P := Tryz.prog) w 23 ty 5 i0 Tryz.underlying23 hi g 0 n c ad m xc cs (by rw [hz1]; omega) hsrc h1 hroom
    (fun j hj => by rw [hB.cell, hz1, List.getElem?_eq_getElem (by omega)]; rfl) (fun j hj => hB.frozen _)
  rw [hrun, hz1, Nat.zero_add, Nat.mul_one]
theorem step_append_in {w : World} {ops : Array Oper} {o : Oper} {ac : Act} {K : Act → World → Prop} {Q : Exit → Act → World → Prop} {E : Prop} (hgd : o.guard = none) (s x : Operand) (ho : o.op = .call { callee := .builtin .append, args := #[s, x], argTypes := #[23, 23] })
    {g n c : Nat} {ad : Addr} {m xc : Nat} (hs : ac.eval s = .slice (some ⟨g, 0, none⟩) n c) (hx : ac.eval x = .slice (some ad) m xc) (cur : List Value) (hB : Bk w g cur) (hc : cur.length = c) (cs : List Value) (hm : cs.length = m)
    (hsrc : ∀ j v, cs[j]? = some v → w.cell? (ad.add j) = some v) (h1 : ∀ v ∈ cs, v.oneCell' = true) (hroom : n + m ≤ c)
    (h : ∀ w', Hid (Bk w' g (splice cur n cs)) → Hid (w.grownBy w' (some g)) → K (ac.put o.dst (.slice (some ⟨g, 0, none⟩) (n + m) c)) w') : if Region.wanted o (yielded ops ac.tmps) = true then Oper.wp Tryz.prog o ac w K Q else E := by
  have hw : Region.wanted o (yielded ops ac.tmps) = true := by simp [Region.wanted, hgd]
  rw [if_pos hw]
  obtain ⟨w', hr, h2, h3⟩ := run_append_in w g n c cur hB hc ad m xc cs hm hsrc h1 hroom
  unfold Oper.wp
  simp [execOp, ho, resolve, invoke, builtin, hs, hx, hr, Result.andThen]
  exact h w' h2 h3

theorem take_splice_at (cur cs : List Value) (i : Nat) (h : i + cs.length ≤ cur.length) : (splice cur i cs).take (i + cs.length) = cur.take i ++ cs := by
  unfold splice
  rw [← List.append_assoc, List.take_append_of_le_length (by rw [List.length_append, List.length_take]; omega), List.take_of_length_le (by rw [List.length_append, List.length_take]; omega)]
theorem take_splice_low (cur cs : List Value) (i k : Nat) (h : k ≤ i) (hi : i ≤ cur.length) : (splice cur i cs).take k = cur.take k := by
  unfold splice
  rw [List.take_append_of_le_length (by rw [List.length_take]; omega), List.take_take, Nat.min_eq_left h]

/-- s[lo:hi:max]. -/
theorem slice_lhm (a : Option Addr) (n c lo hi mx : Nat) (h1 : lo ≤ hi) (h2 : hi ≤ mx) (h3 : mx ≤ c) :
    ∃ a', ∀ wx, (Instr.sliceAt 23 (.slice a n c) (some (.int .i64 lo)) (some (.int .i64 hi)) (some (.int .i64 mx))).run Tryz.prog wx = .ok (.slice a' (hi - lo) (mx - lo)) wx := by
  have ht : Tryz.prog.underlying 23 = some (.slice (Tryz.prog.elem 23)) := by rw [Tryz.elem23]; exact Tryz.underlying23
  refine ⟨if mx = lo then a else a.map (·.add (lo * 1)), fun wx => ?_⟩
  rw [run_sliceAt_slice _ _ _ _ _ _ ht, run_slice_lhm (P := Tryz.prog) wx 23 _ n c ht .i64 .i64 .i64 lo hi mx (by omega) (by omega) (by omega) (by omega), Tryz.elem23, Tryz.size5]
  simp only [Result.andThen, sliced, Int.toNat_natCast]

end Go.Proofs.YtkohjejfkbaffaaGreat

namespace Go.Proofs.YtkohjejfkbaffaaGreat
open Go.RowKit Go.PlainAid

theorem Bk.drewN {w : World} {g : Nat} {cur : List Value} (h : Bk w g cur) (q : Nat) : Bk (w.drewN q) g cur := h.keep (below_grown (below_drewN w q) none) (by simp)
theorem grown_drewN (w : World) (q : Nat) (row : Option Nat) : w.grownBy (w.drewN q) row := below_grown (below_drewN w q) row

theorem rep_place1 (cur R D : List Value) (i k t : Nat) (hk : i + R.length = k) (ht : k + D.length = t) (hc : t ≤ cur.length) : (splice (splice cur i R) k D).take t = cur.take i ++ (R ++ D) := by
  subst hk; subst ht
  have h1 : (splice cur i R).length = cur.length := length_splice _ _ _ (by omega)
  rw [take_splice_at _ _ _ (by omega), take_splice_at _ _ _ (by omega), List.append_assoc]
theorem rep_place2 (cur R D : List Value) (i k t : Nat) (hk : i + R.length = k) (ht : k + D.length = t) (hc : t ≤ cur.length) : (splice (splice cur k D) i R).take t = cur.take i ++ (R ++ D) := by
  subst hk; subst ht
  have h1 : (splice cur (i + R.length) D).length = cur.length := length_splice _ _ _ (by omega)
  have h2 : splice (splice cur (i + R.length) D) i R = cur.take i ++ (R ++ (D ++ cur.drop (i + R.length + D.length))) := by
    rw [show splice (splice cur (i + R.length) D) i R = (splice cur (i + R.length) D).take i ++ (R ++ (splice cur (i + R.length) D).drop (i + R.length)) from rfl, take_splice_low _ _ _ _ (by omega) (by omega)]
    congr 2
    unfold splice
    rw [List.drop_append_of_le_length (by rw [List.length_take]; omega), List.drop_eq_nil_of_le (by rw [List.length_take]; omega), List.nil_append]
  rw [h2, ← List.append_assoc, ← List.append_assoc, List.take_append_of_le_length (by simp only [List.length_append, List.length_take]; omega), List.take_of_length_le (by simp only [List.length_append, List.length_take]; omega), List.append_assoc]

set_option maxRecDepth 100000 in
set_option maxHeartbeats 4000000 in
theorem replace_none (B C : Nat) (a : Option Addr) (n c : Nat) (l : List UInt8) (a2 : Option Addr) (m c2 : Nat) (r : List UInt8) (i : Nat) (w : World) (hO : Own w B a n c l) (hV : Own w C a2 m c2 r) (hC : ∀ x, a = some x → x.block < C) (hi : i ≤ n) (hb : n + m ≤ 140737488355328) (hB : B ≤ w.heap.size) :
    Calls Tryz.prog 78 #[.slice a n c, .int .i64 i, .int .i64 i, .slice a2 m c2] w fun e w' => Turned w B a (l.take i ++ (r ++ l.drop i)) e w' := by
  obtain ⟨a3, c3, hsl, -⟩ := hO.rd.slice_lh i i (Nat.le_refl _) hi
  have HI := Insert_sl B C a n c l a2 m c2 r i w hO hV hC hi hb hB
  clear hO hV
  go_enter Tryz.func78, Tryz.ntmps78
  go_wp2_with fail
  refine HI.mono ?_
  rintro e w1 ⟨a4, n4, c4, rfl, hO4, hG4, hW4⟩
  have HW4 : Hid (Went w a a4) := hW4
  have HO4 : Hid (Own w1 B a4 n4 c4 (l.take i ++ (r ++ l.drop i))) := hO4
  have HG4 : Hid (w.grownBy w1 (a.map (·.block))) := hG4
  clear hO4 hG4 hW4
  go_wp2
  go_ret
  exact ⟨_, _, _, rfl, HO4.out, HG4.out, HW4.out⟩

set_option maxRecDepth 100000 in
set_option maxHeartbeats 4000000 in
/-- To the end, by what is not shorter. -/
theorem replace_end (B : Nat) (g n c : Nat) (l : List UInt8) (h m c2 : Nat) (r : List UInt8) (i : Nat) (w : World) (cur : List Value) (hBg : B ≤ g) (hBw : B ≤ w.heap.size) (hg : Bk w g cur) (hV : Rd w (some ⟨h, 0, none⟩) m c2 r) (hn : n ≤ c) (hcm : c ≤ maxLen) (hcl : cur.length = c) (ht : cur.take n = cells l)
    (hl : l.length = n) (hi : i < n) (hm : n ≤ i + m) (hb : n + m ≤ 140737488355328) :
    Calls Tryz.prog 78 #[.slice (some ⟨g, 0, none⟩) n c, .int .i64 i, .int .i64 n, .slice (some ⟨h, 0, none⟩) m c2] w fun e w' => Turned w B (some ⟨g, 0, none⟩) (l.take i ++ (r ++ l.drop n)) e w' := by
  have hcm' := hcm
  unfold maxLen at hcm'
  obtain ⟨o1, -, s1⟩ := slice_at g n c i n (by omega) (by omega)
  have s2 := slice_hi g n c i (by omega)
  have HO : Hid (Own w B (some ⟨g, 0, none⟩) i c (l.take i)) := Own.of hBg hg (by omega) hcm hcl (by rw [← cells_take, ← ht, List.take_take, Nat.min_eq_left (by omega)])
  have HV : Hid (Rd w (some ⟨h, 0, none⟩) m c2 r) := hV
  have HM : Hid (i + m ≤ 140737488355328) := by show _ ≤ _; omega
  have HB : Hid (B ≤ w.heap.size) := hBw
  have HL : Hid (l.take i ++ (r ++ l.drop n) = l.take i ++ r) := by
    show _ = _
    rw [List.drop_eq_nil_of_le (by omega), List.append_nil]
  have hz2 : ¬ ((i : Int) = (n : Int)) := by omega
  have hz3 : ¬ ((i : Int) + (m : Int) < (n : Int)) := by omega
  clear hg hV ht hcl hBg hcm
  go_enter Tryz.func78, Tryz.ntmps78
  go_wp2_with (at_builtin; refine append_rowG rfl (.tmp 32) (.tmp 33) rfl B rfl HO.out rfl HV.out HM.out HB.out ?_; intro a4 n4 c4 w4 hn4 HO4 HG4 HW4; replace hn4 : ¬ ((n4 : Int) < (n : Int)) := (by omega))
  go_ret
  exact ⟨_, _, _, rfl, by rw [HL.out]; exact HO4.out, HG4.out, HW4.out⟩

set_option maxRecDepth 100000 in
set_option maxHeartbeats 4000000 in
/-- To the end, by what is shorter. -/
theorem replace_less (B : Nat) (g n c : Nat) (l : List UInt8) (h m c2 : Nat) (r : List UInt8) (i : Nat) (w : World) (cur : List Value) (hBg : B ≤ g) (hg : Bk w g cur) (hV : Rd w (some ⟨h, 0, none⟩) m c2 r) (hn : n ≤ c) (hcm : c ≤ maxLen) (hcl : cur.length = c) (ht : cur.take n = cells l)
    (hl : l.length = n) (hi : i < n) (hm : i + m < n) :
    Calls Tryz.prog 78 #[.slice (some ⟨g, 0, none⟩) n c, .int .i64 i, .int .i64 n, .slice (some ⟨h, 0, none⟩) m c2] w fun e w' => Turned w B (some ⟨g, 0, none⟩) (l.take i ++ (r ++ l.drop n)) e w' := by
  have hcm' := hcm
  unfold maxLen at hcm'
  obtain ⟨k, hK⟩ : ∃ k, i + m = k := ⟨_, rfl⟩
  obtain ⟨o1, -, s1⟩ := slice_at g n c i n (by omega) (by omega)
  have s2 := slice_hi g n c i (by omega)
  obtain ⟨o3, ho3, s3⟩ := slice_lo g n c k (by omega)
  have hO3 : o3 = k := ho3 (by omega)
  subst hO3
  have hrl := hV.len
  obtain ⟨Y, hY⟩ : ∃ Y, Y = cells r := ⟨_, rfl⟩
  have hYl : Y.length = m := by rw [hY, cells_len]; omega
  have hYs : ∀ j v, Y[j]? = some v → w.cell? ((⟨h, 0, none⟩ : Addr).add j) = some v := by
    intro j v hv
    have hj := (List.getElem?_eq_some_iff.1 hv).1
    obtain ⟨b, off, e, hc⟩ := hV.cell j (by omega)
    cases e
    rw [add_flat, hc]
    rw [hY, cells, List.getElem?_map, List.getElem?_eq_getElem (by omega)] at hv
    rw [List.getD_eq_getElem?_getD, List.getElem?_eq_getElem (by omega)]
    exact hv
  obtain ⟨w1, hr1, hB1, hG1⟩ := run_append_in w g i c cur hg hcl ⟨h, 0, none⟩ m c2 Y hYl hYs (by rw [hY]; exact cells_one _) (by omega)
  rw [hK] at hr1
  have hsl : (splice cur i Y).length = c := by rw [length_splice _ _ _ (by omega), hcl]
  have HB1 : Hid (Bk w1 g (splice cur i Y)) := hB1
  have HG1 : Hid (w.grownBy w1 (some g)) := hG1
  have HF : Hid (o3 + (n - o3) ≤ (splice cur i Y).length) := by show _ ≤ _; rw [hsl]; omega
  have HF2 : Hid ((splice cur i Y).length = c) := hsl
  have HL : Hid ((splice cur i Y).take o3 = cells (l.take i ++ (r ++ l.drop n))) := by
    show _ = _
    have := take_splice_at cur Y i (by omega)
    rw [show i + Y.length = o3 by omega] at this
    rw [this, List.drop_eq_nil_of_le (by omega), List.append_nil, cells_append, hY, ← cells_take, ← ht, List.take_take, Nat.min_eq_left (by omega)]
  have HBg : Hid (B ≤ g) := hBg
  have HM : Hid (c ≤ maxLen) := hcm
  have hz2 : ¬ ((i : Int) = (n : Int)) := by omega
  have hz3 : ((o3 : Int) < (n : Int)) := by omega
  have hoc : o3 ≤ c := by omega
  clear hY hYl hYs ht hcl hg hV hBg hB1 hG1 hsl hK hm ho3 hrl hcm
  go_enter Tryz.func78, Tryz.ntmps78
  go_wp2_with (first | (at_builtin; refine Lib.wpList_append_run _ rfl (.tmp 32) (.tmp 33) 23 23 rfl _ _ rfl rfl _ _ (hr1 _) ?_) | (refine clear_in rfl (.tmp 43) rfl rfl _ HB1.out HF.out ?_; intro w2 HB2 HG2))
  go_ret
  refine ⟨_, _, _, rfl, Own.of HBg.out HB2.out hoc HM.out ?_ ?_, grown_trans HG1.out HG2.out, .inl rfl⟩
  · exact (length_splice _ _ _ (by rw [List.length_replicate]; exact HF.out)).trans HF2.out
  · exact (take_splice_low _ _ _ _ (Nat.le_refl _) (Nat.le_trans hoc (Nat.le_of_eq HF2.out.symm))).trans HL.out

set_option maxRecDepth 100000 in
set_option maxHeartbeats 4000000 in
theorem replace_wide (B : Nat) (g n c : Nat) (l : List UInt8) (h m c2 : Nat) (r : List UInt8) (i j : Nat) (w : World) (cur cv : List Value) (hBg : B ≤ g) (hg : Bk w g cur) (hh : Bk w h cv) (hne : h ≠ g) (hn : n ≤ c) (hcm : c ≤ maxLen) (hcl : cur.length = c) (ht : cur.take n = cells l) (htv : cv.take m = cells r) (hcv : cv.length ≠ 0)
    (hl : l.length = n) (hr : r.length = m) (hi : i < j) (hj : j < n) (hb : n + m ≤ 140737488355328) (hx : j < i + m) (hroom : i + m + (n - j) ≤ c) :
    Calls Tryz.prog 78 #[.slice (some ⟨g, 0, none⟩) n c, .int .i64 i, .int .i64 j, .slice (some ⟨h, 0, none⟩) m c2] w fun e w' => Turned w B (some ⟨g, 0, none⟩) (l.take i ++ (r ++ l.drop j)) e w' := by
  have hcm' := hcm
  unfold maxLen at hcm'
  obtain ⟨k, hK⟩ : ∃ k, i + m = k := ⟨_, rfl⟩
  obtain ⟨d, hD⟩ : ∃ d, n - j = d := ⟨_, rfl⟩
  obtain ⟨t, hT⟩ : ∃ t, k + d = t := ⟨_, rfl⟩
  have hKi : (i : Int) + (m : Int) = k := by omega
  have hTi : (k : Int) + (d : Int) = t := by omega
  obtain ⟨o1, -, s1⟩ := slice_at g n c i j (by omega) (by omega)
  have s2 := slice_hi g n c i (by omega)
  obtain ⟨o3, ho3, s3⟩ := slice_lo g n c j (by omega)
  have hO3 : o3 = j := ho3 (by omega)
  subst hO3
  rw [hD] at s3
  obtain ⟨X, hX⟩ : ∃ X, X = cells (l.drop o3) := ⟨_, rfl⟩
  obtain ⟨Y, hY⟩ : ∃ Y, Y = cells r := ⟨_, rfl⟩
  have hXl : X.length = d := by rw [hX, cells_len, List.length_drop]; omega
  have hYl : Y.length = m := by rw [hY, cells_len]; omega
  have HX4 : Hid (∀ v ∈ X, v.oneCell' = true) := by show ∀ _, _; rw [hX]; exact cells_one _
  have HY4 : Hid (∀ v ∈ Y, v.oneCell' = true) := by show ∀ _, _; rw [hY]; exact cells_one _
  have HYs : Hid (∀ w1 : World, Bk w1 h cv → ∀ j v, Y[j]? = some v → w1.cell? ((⟨h, 0, none⟩ : Addr).add j) = some v) := by
    show ∀ _, _
    intro w1 h1
    rw [hY]; exact cell_all h1 htv (by omega)
  have HXl : Hid (X.length = d) := hXl
  have HYl : Hid (Y.length = m) := hYl
  have HH : Hid (Bk w h cv) := hh
  have HN : Hid (some h ≠ some g) := fun e => hne (Option.some.inj e)
  have HBg : Hid (B ≤ g) := hBg
  have HCM : Hid (c ≤ maxLen) := hcm
  have hz2 : ¬ ((i : Int) = (o3 : Int)) := by omega
  have hz3 : ¬ ((o3 : Int) = (n : Int)) := by omega
  have hwk : IntKind.i64.wrap (k : Int) = k := by rw [IntKind.wrap_i64]; omega
  have hwt : IntKind.i64.wrap (t : Int) = t := by rw [IntKind.wrap_i64]; omega
  have hA : cur.take i = cells (l.take i) := by rw [← cells_take, ← ht, List.take_take, Nat.min_eq_left (by omega)]
  have s4 := slice_hi g n c t (by omega)
  obtain ⟨o5, ho5, s5⟩ := slice_lo g t c k (by omega)
  obtain ⟨o6, ho6, s6⟩ := slice_lo g t c i (by omega)
  have hO6 : o6 = i := ho6 (by omega)
  subst hO6
  have htk : t - k = d := by omega
  rw [htk] at s5
  have HOV : Hid (∀ W : World, Bk W g cur → Bk W h cv → ∀ lb cb, (callFunc 100 #[.slice (some ⟨g, o5, none⟩) lb cb, .slice (some ⟨h, 0, none⟩) m c2]).run Tryz.prog W = .ok (.value (.bool false)) W) := fun W h1 h2 lb cb => apart_any h1 h2 (Ne.symm hne) hcv o5 0 lb cb m c2
  have HG : Hid (Bk w g cur) := hg
  have HX1 : Hid (X.length = Nat.min d d) := by show X.length = min _ _; rw [hXl, Nat.min_self]
  have HX2 : Hid (∀ W : World, Bk W g cur → CpOk W (some ⟨g, o5, none⟩) (some ⟨g, o3, none⟩) g k X) := fun W h1 h0 =>
    ⟨by rw [ho5 (by omega)], _, rfl, by rw [hX]; exact cell_of h1 ht o3 (by omega)⟩
  have HX3 : Hid (k + X.length ≤ cur.length) := by show _ ≤ _; omega
  have HY1 : Hid (Y.length = Nat.min m (t - o6)) := by show Y.length = min _ _; rw [hYl, Nat.min_def]; split <;> omega
  have HY3 : Hid (o6 + Y.length ≤ (splice cur k X).length) := by show _ ≤ _; rw [length_splice _ _ _ HX3.out]; omega
  have HL : Hid ((splice (splice cur k X) o6 Y).take t = cells (l.take o6 ++ (r ++ l.drop o3))) := by
    show _ = _
    rw [rep_place2 cur Y X o6 k t (by omega) (by omega) (by omega), hA, hX, hY, cells_append, cells_append]
  have HC : Hid ((splice (splice cur k X) o6 Y).length = c) := by show _ = _; rw [length_splice _ _ _ HY3.out, length_splice _ _ _ HX3.out, hcl]
  have hz4 : ¬ ((k : Int) ≤ (o3 : Int)) := by omega
  have hz5 : ¬ ((c : Int) < (t : Int)) := by omega
  have htc : t ≤ c := by omega
  have hkt : k ≤ t := by omega
  have hit : o6 ≤ t := by omega
  clear hX hY hXl hYl ht htv hcl hg hh ho3 ho5 ho6 hBg hne hD hK hT hcm hA htk hcv
  go_enter Tryz.func78, Tryz.ntmps78
  go_wp2_with fail
  go_quiet (fail)
  have HW1 : Hid (w.grownBy (w.drewN nq) (some g)) := grown_drewN w nq _
  have HW2 : Hid (Bk (w.drewN nq) g cur) := HG.out.drewN nq
  have HW3 : Hid (Bk (w.drewN nq) h cv) := HH.out.drewN nq
  generalize w.drewN nq = W at *
  have hov := HOV.out W HW2.out HW3.out
  have HWd : Hid (Bk W.drew g cur) := HW2.out
  have HX2d := HX2.out W.drew HWd.out
  have HX2' : Hid (CpOk W.drew (some ⟨g, o5, none⟩) (some ⟨g, o3, none⟩) g k X) := HX2d
  clear HX2d
  go_wp2_with (simp only [hov])
  go_region_law (refine step_copy_in rfl (.tmp 126) (.tmp 129) rfl (by simp [Act.eval, Act.put] <;> rfl) (by simp [Act.eval, Act.put] <;> rfl) g k cur HWd.out X HX1.out HX2'.out HX3.out HX4.out ?_; intro w1 HB1 HG1)
  have HY2 : Hid (CpOk w1 (some ⟨g, o6, none⟩) (some ⟨h, 0, none⟩) g o6 Y) := fun _ => ⟨rfl, _, rfl, HYs.out w1 (HW3.out.keep (drew_grown HG1.out) HN.out)⟩
  obtain ⟨w2, hr2, hB2, hG2⟩ := run_copy_in w1 _ _ (t - o6) (c - o6) m c2 g o6 _ HB1.out Y HY1.out HY2.out HY3.out HY4.out
  have HB2 : Hid (Bk w2 g (splice (splice cur k X) o6 Y)) := hB2
  have HG2 : Hid (w1.grownBy w2 (some g)) := hG2
  clear hB2 hG2
  go_wp2_with (simp only [hr2])
  go_ret
  exact ⟨_, _, _, rfl, Own.of HBg.out HB2.out htc HCM.out HC.out HL.out, grown_trans (grown_trans HW1.out (drew_grown HG1.out)) HG2.out, .inl rfl⟩

end Go.Proofs.YtkohjejfkbaffaaGreat

namespace Go.Proofs.YtkohjejfkbaffaaGreat
open Go.RowKit Go.PlainAid

set_option maxRecDepth 100000 in
set_option maxHeartbeats 4000000 in
theorem replace_fit (B : Nat) (g n c : Nat) (l : List UInt8) (h m c2 : Nat) (r : List UInt8) (i j : Nat) (w : World) (cur cv : List Value) (hBg : B ≤ g) (hg : Bk w g cur) (hh : Bk w h cv) (hne : h ≠ g) (hn : n ≤ c) (hcm : c ≤ maxLen) (hcl : cur.length = c) (ht : cur.take n = cells l) (htv : cv.take m = cells r)
    (hl : l.length = n) (hr : r.length = m) (hi : i < j) (hj : j < n) (hb : n + m ≤ 140737488355328) (hx : i + m ≤ j) :
    Calls Tryz.prog 78 #[.slice (some ⟨g, 0, none⟩) n c, .int .i64 i, .int .i64 j, .slice (some ⟨h, 0, none⟩) m c2] w fun e w' => Turned w B (some ⟨g, 0, none⟩) (l.take i ++ (r ++ l.drop j)) e w' := by
  have hcm' := hcm
  unfold maxLen at hcm'
  obtain ⟨k, hK⟩ : ∃ k, i + m = k := ⟨_, rfl⟩
  obtain ⟨d, hD⟩ : ∃ d, n - j = d := ⟨_, rfl⟩
  obtain ⟨t, hT⟩ : ∃ t, k + d = t := ⟨_, rfl⟩
  have hKi : (i : Int) + (m : Int) = k := by omega
  have hTi : (k : Int) + (d : Int) = t := by omega
  obtain ⟨o1, -, s1⟩ := slice_at g n c i j (by omega) (by omega)
  have s2 := slice_hi g n c i (by omega)
  obtain ⟨o3, ho3, s3⟩ := slice_lo g n c j (by omega)
  have hO3 : o3 = j := ho3 (by omega)
  subst hO3
  rw [hD] at s3
  obtain ⟨X, hX⟩ : ∃ X, X = cells (l.drop o3) := ⟨_, rfl⟩
  obtain ⟨Y, hY⟩ : ∃ Y, Y = cells r := ⟨_, rfl⟩
  have hXl : X.length = d := by rw [hX, cells_len, List.length_drop]; omega
  have hYl : Y.length = m := by rw [hY, cells_len]; omega
  have HX4 : Hid (∀ v ∈ X, v.oneCell' = true) := by show ∀ _, _; rw [hX]; exact cells_one _
  have HY4 : Hid (∀ v ∈ Y, v.oneCell' = true) := by show ∀ _, _; rw [hY]; exact cells_one _
  have HYs : Hid (∀ w1 : World, Bk w1 h cv → ∀ j v, Y[j]? = some v → w1.cell? ((⟨h, 0, none⟩ : Addr).add j) = some v) := by
    show ∀ _, _
    intro w1 h1
    rw [hY]; exact cell_all h1 htv (by omega)
  have HXl : Hid (X.length = d) := hXl
  have HYl : Hid (Y.length = m) := hYl
  have HH : Hid (Bk w h cv) := hh
  have HN : Hid (some h ≠ some g) := fun e => hne (Option.some.inj e)
  have HBg : Hid (B ≤ g) := hBg
  have HCM : Hid (c ≤ maxLen) := hcm
  have hz2 : ¬ ((i : Int) = (o3 : Int)) := by omega
  have hz3 : ¬ ((o3 : Int) = (n : Int)) := by omega
  have hwk : IntKind.i64.wrap (k : Int) = k := by rw [IntKind.wrap_i64]; omega
  have hwt : IntKind.i64.wrap (t : Int) = t := by rw [IntKind.wrap_i64]; omega
  have hA : cur.take i = cells (l.take i) := by rw [← cells_take, ← ht, List.take_take, Nat.min_eq_left (by omega)]
  have s4 := slice_hi g n c t (by omega)
  obtain ⟨o5, ho5, s5⟩ := slice_lo g t c k (by omega)
  obtain ⟨o6, ho6, s6⟩ := slice_lo g t c i (by omega)
  obtain ⟨o7, ho7, s7⟩ := slice_lo g n c t (by omega)
  have hO6 : o6 = i := ho6 (by omega)
  subst hO6
  have htk : t - k = d := by omega
  rw [htk] at s5
  have HG : Hid (Bk w g cur) := hg
  have HY1 : Hid (Y.length = Nat.min m (t - o6)) := by show Y.length = min _ _; rw [hYl, Nat.min_def]; split <;> omega
  have HY3 : Hid (o6 + Y.length ≤ cur.length) := by show _ ≤ _; omega
  have hsp : (splice cur o6 Y).length = c := by rw [length_splice _ _ _ HY3.out, hcl]
  have HX1 : Hid (X.length = Nat.min d d) := by show X.length = min _ _; rw [hXl, Nat.min_self]
  have HX2 : Hid (∀ W : World, Bk W g (splice cur o6 Y) → CpOk W (some ⟨g, o5, none⟩) (some ⟨g, o3, none⟩) g k X) := fun W h1 h0 =>
    ⟨by rw [ho5 (by omega)], _, rfl, fun q v hv => by
      have hq := (List.getElem?_eq_some_iff.1 hv).1
      rw [add_flat, h1.cell, splice_get _ _ _ HY3.out, if_neg (by omega), if_neg (by omega)]
      rw [hX] at hv
      have := cell_of hg ht o3 (by omega) q v hv
      rw [add_flat, hg.cell] at this
      exact this⟩
  have HX3 : Hid (k + X.length ≤ (splice cur o6 Y).length) := by show _ ≤ _; omega
  have hsp2 : (splice (splice cur o6 Y) k X).length = c := by rw [length_splice _ _ _ HX3.out, hsp]
  have HL : Hid ((splice (splice cur o6 Y) k X).take t = cells (l.take o6 ++ (r ++ l.drop o3))) := by
    show _ = _
    rw [rep_place1 cur Y X o6 k t (by omega) (by omega) (by omega), hA, hX, hY, cells_append, cells_append]
  have HC : Hid ((splice (splice cur o6 Y) k X).length = c) := hsp2
  have HO7 : Hid (t < n → o7 = t) := by show _ → _; intro; exact ho7 (by omega)
  have hz4 : ((k : Int) ≤ (o3 : Int)) := by omega
  have hz5 : ¬ ((c : Int) < (t : Int)) := by omega
  have htc : t ≤ c := by omega
  have htn : t ≤ n := by omega
  have hkt : k ≤ t := by omega
  have hit : o6 ≤ t := by omega
  clear hX hY hXl hYl ht htv hcl hg hh ho3 ho5 ho6 ho7 hBg hne hD hK hT hcm hA htk hsp hsp2
  go_enter Tryz.func78, Tryz.ntmps78
  go_wp2_with fail
  go_quiet (fail)
  have HW1 : Hid (w.grownBy (w.drewN nq) (some g)) := grown_drewN w nq _
  have HW2 : Hid (Bk (w.drewN nq) g cur) := HG.out.drewN nq
  have HW3 : Hid (Bk (w.drewN nq) h cv) := HH.out.drewN nq
  generalize w.drewN nq = W at *
  have HY2 : Hid (CpOk W (some ⟨g, o6, none⟩) (some ⟨h, 0, none⟩) g o6 Y) := fun _ => ⟨rfl, _, rfl, HYs.out W HW3.out⟩
  obtain ⟨w1, hr1, hB1, hG1⟩ := run_copy_in W _ _ (t - o6) (c - o6) m c2 g o6 _ HW2.out Y HY1.out HY2.out HY3.out HY4.out
  have HB1 : Hid (Bk w1 g (splice cur o6 Y)) := hB1
  have HG1 : Hid (W.grownBy w1 (some g)) := hG1
  clear hB1 hG1
  go_wp2_with (simp only [hr1])
  have HWd : Hid (Bk w1.drew g (splice cur o6 Y)) := HB1.out
  have HX2d := HX2.out w1.drew HWd.out
  have HX2' : Hid (CpOk w1.drew (some ⟨g, o5, none⟩) (some ⟨g, o3, none⟩) g k X) := HX2d
  clear HX2d
  go_region_law (refine step_copy_in rfl (.tmp 103) (.tmp 106) rfl (by simp [Act.eval, Act.put] <;> rfl) (by simp [Act.eval, Act.put] <;> rfl) g k _ HWd.out X HX1.out HX2'.out HX3.out HX4.out ?_; intro w2 HB2 HG2)
  by_cases h7 : t < n
  · have h8 : o7 = t := HO7.out h7
    subst h8
    have HF : Hid (o7 + (n - o7) ≤ (splice (splice cur o6 Y) k X).length) := by show _ ≤ _; rw [HC.out]; omega
    go_wp2_with (refine clear_in rfl (.tmp 110) rfl rfl _ HB2.out HF.out ?_; intro w3 HB3 HG3)
    go_ret
    refine ⟨_, _, _, rfl, Own.of HBg.out HB3.out htc HCM.out ?_ ?_, grown_trans (grown_trans (grown_trans HW1.out HG1.out) (drew_grown HG2.out)) HG3.out, .inl rfl⟩
    · exact (length_splice _ _ _ (by rw [List.length_replicate]; exact HF.out)).trans HC.out
    · exact (take_splice_low _ _ _ _ (Nat.le_refl _) (Nat.le_trans htc (Nat.le_of_eq HC.out.symm))).trans HL.out
  · have h8 : t = n := by omega
    subst h8
    have hrc : ∀ o c', ∀ ty, (Builtin.clear_ #[23] ty #[.slice (some ⟨g, o, none⟩) 0 c']).run Tryz.prog w2 = .ok (.tuple #[]) w2 := by
      intro o c' ty
      simp [Builtin.clear_, run_underlying Tryz.underlying23]
    rw [Nat.sub_self] at s7
    go_wp2_with (simp only [hrc])
    go_ret
    exact ⟨_, _, _, rfl, Own.of HBg.out HB2.out htc HCM.out HC.out HL.out, grown_trans (grown_trans HW1.out HG1.out) (drew_grown HG2.out), .inl rfl⟩

end Go.Proofs.YtkohjejfkbaffaaGreat

namespace Go.Proofs.YtkohjejfkbaffaaGreat
open Go.RowKit Go.PlainAid

theorem size_drewN (w : World) : ∀ q, (w.drewN q).heap.size = w.heap.size
  | 0 => rfl
  | q + 1 => size_drewN w q
set_option maxRecDepth 100000 in
set_option maxHeartbeats 4000000 in
theorem replace_new (B : Nat) (g n c : Nat) (l : List UInt8) (h m c2 : Nat) (r : List UInt8) (i j : Nat) (w : World) (cur cv : List Value) (hBw : B ≤ w.heap.size) (hg : Bk w g cur) (hh : Bk w h cv) (hn : n ≤ c) (hcm : c ≤ maxLen) (hcl : cur.length = c) (ht : cur.take n = cells l) (htv : cv.take m = cells r)
    (hl : l.length = n) (hr : r.length = m) (hi : i < j) (hj : j < n) (hb : n + m ≤ 140737488355328) (hroom : c < i + m + (n - j)) :
    Calls Tryz.prog 78 #[.slice (some ⟨g, 0, none⟩) n c, .int .i64 i, .int .i64 j, .slice (some ⟨h, 0, none⟩) m c2] w fun e w' => Turned w B (some ⟨g, 0, none⟩) (l.take i ++ (r ++ l.drop j)) e w' := by
  have hcm' := hcm
  unfold maxLen at hcm'
  obtain ⟨k, hK⟩ : ∃ k, i + m = k := ⟨_, rfl⟩
  obtain ⟨d, hD⟩ : ∃ d, n - j = d := ⟨_, rfl⟩
  obtain ⟨t, hT⟩ : ∃ t, k + d = t := ⟨_, rfl⟩
  have hKi : (i : Int) + (m : Int) = k := by omega
  have hTi : (k : Int) + (d : Int) = t := by omega
  obtain ⟨o1, -, s1⟩ := slice_at g n c i j (by omega) (by omega)
  have s2 := slice_hi g n c i (by omega)
  obtain ⟨o3, ho3, s3⟩ := slice_lo g n c j (by omega)
  have hO3 : o3 = j := ho3 (by omega)
  subst hO3
  rw [hD] at s3
  obtain ⟨X, hX⟩ : ∃ X, X = cells (l.drop o3) := ⟨_, rfl⟩
  obtain ⟨Y, hY⟩ : ∃ Y, Y = cells r := ⟨_, rfl⟩
  have hXl : X.length = d := by rw [hX, cells_len, List.length_drop]; omega
  have hYl : Y.length = m := by rw [hY, cells_len]; omega
  have HX4 : Hid (∀ v ∈ X, v.oneCell' = true) := by show ∀ _, _; rw [hX]; exact cells_one _
  have HY4 : Hid (∀ v ∈ Y, v.oneCell' = true) := by show ∀ _, _; rw [hY]; exact cells_one _
  have HYs : Hid (∀ w1 : World, Bk w1 h cv → ∀ j v, Y[j]? = some v → w1.cell? ((⟨h, 0, none⟩ : Addr).add j) = some v) := by
    show ∀ _, _
    intro w1 h1
    rw [hY]; exact cell_all h1 htv (by omega)
  have HXl : Hid (X.length = d) := hXl
  have HYl : Hid (Y.length = m) := hYl
  have HH : Hid (Bk w h cv) := hh
  have HCM : Hid (c ≤ maxLen) := hcm
  have hz2 : ¬ ((i : Int) = (o3 : Int)) := by omega
  have hz3 : ¬ ((o3 : Int) = (n : Int)) := by omega
  have hwk : IntKind.i64.wrap (k : Int) = k := by rw [IntKind.wrap_i64]; omega
  have hwt : IntKind.i64.wrap (t : Int) = t := by rw [IntKind.wrap_i64]; omega
  have hA : cur.take i = cells (l.take i) := by rw [← cells_take, ← ht, List.take_take, Nat.min_eq_left (by omega)]
  obtain ⟨q, hQ⟩ : ∃ q, t - i = q := ⟨_, rfl⟩
  have hQi : (t : Int) - (i : Int) = q := by omega
  obtain ⟨G, hG⟩ : ∃ G, w.heap.size = G := ⟨_, rfl⟩
  have HA1 : Hid (0 < q) := by show _ < _; omega
  have HA2 : Hid (i ≤ cur.length) := by show _ ≤ _; omega
  have HA3 : Hid (c < i + q) := by show _ < _; omega
  have HA4 : Hid (i + q ≤ 140737488355328) := by show _ ≤ _; omega
  have HG : Hid (Bk w g cur) := hg
  have HX1 : Hid (X.length = Nat.min d d) := by show X.length = min _ _; rw [hXl, Nat.min_self]
  have HXs : Hid (∀ w1 : World, Bk w1 g cur → ∀ j v, X[j]? = some v → w1.cell? ((⟨g, o3, none⟩ : Addr).add j) = some v) := by
    show ∀ _, _
    intro w1 h1
    rw [hX]; exact cell_of h1 ht o3 (by omega)
  have HY1 : Hid (Y.length = Nat.min m q) := by show Y.length = min _ _; rw [hYl, Nat.min_def]; split <;> omega
  have HYk : Hid (i + Y.length ≤ t) := by show _ ≤ _; omega
  have HXk : Hid (0 < X.length → k < t) := by show _ → _; omega
  have HXk2 : Hid (k + X.length = t) := by show _ = _; omega
  have HL : Hid (∀ C : List Value, C.take i = cur.take i → t ≤ C.length → (splice (splice C i Y) k X).take t = cells (l.take i ++ (r ++ l.drop o3))) := by
    show ∀ _, _
    intro C hC hZ
    rw [rep_place1 C Y X i k t (by omega) (by omega) hZ, hC, hA, hX, hY, cells_append, cells_append]
  have HT : Hid (i + q = t) := by show _ = _; omega
  have HQ : Hid (t - i = q) := hQ
  have HTK : Hid (t - k = d) := by show _ = _; omega
  have HBw : Hid (B ≤ G) := by show _ ≤ _; omega
  have HGg : Hid (g < G) := by have := hg.lt; show _ < _; omega
  have HGe : Hid (w.heap.size = G) := hG
  have hz5 : ((c : Int) < (t : Int)) := by omega
  have hkt : k ≤ t := by omega
  have htb : t ≤ 140737488355328 := by omega
  have hit : i ≤ t := by omega
  clear hX hY hXl hYl ht htv hcl hg hh ho3 hD hK hT hcm hA hG hQ
  go_enter Tryz.func78, Tryz.ntmps78
  go_wp2_with fail
  go_quiet (fail)
  have HW1 : Hid (w.grownBy (w.drewN nq) none) := grown_drewN w nq _
  have HW2 : Hid (Bk (w.drewN nq) g cur) := HG.out.drewN nq
  have HW3 : Hid (Bk (w.drewN nq) h cv) := HH.out.drewN nq
  have HW4 : Hid ((w.drewN nq).heap.size = G) := (size_drewN w nq).trans HGe.out
  generalize w.drewN nq = W at *
  go_wp2_with (at_builtin; refine append_zeros rfl (.tmp 63) (.tmp 66) rfl rfl rfl q rfl HA1.out cur HW2.out HA2.out HA3.out HA4.out ?_; intro c3 w1 hc3 hc4 HB1 HG1)
  rw [HW4.out] at HB1
  rw [HT.out] at hc3
  rw [HW4.out, HT.out]
  unfold maxLen at hc4
  obtain ⟨o5, ho5, s5⟩ := slice_lo G t c3 i (by omega)
  obtain ⟨o6, ho6, s6⟩ := slice_lo G t c3 k (by omega)
  have hO5 : o5 = i := ho5 (by omega)
  subst hO5
  have HZ : Hid ((cur.take o5 ++ List.replicate (c3 - o5) (Value.int .u8 0)).length = c3) := by
    have := HA2.out
    show _ = _
    rw [List.length_append, List.length_take, List.length_replicate]; omega
  have HZ2 : Hid ((cur.take o5 ++ List.replicate (c3 - o5) (Value.int .u8 0)).take o5 = cur.take o5) := by
    have := HA2.out
    show _ = _
    rw [List.take_append_of_le_length (by rw [List.length_take]; omega), List.take_take, Nat.min_self]
  obtain ⟨C0, hC0⟩ : ∃ C0, cur.take o5 ++ List.replicate (c3 - o5) (Value.int .u8 0) = C0 := ⟨_, rfl⟩
  rw [hC0] at HB1 HZ HZ2
  have HLL : Hid ((splice (splice C0 o5 Y) k X).take t = cells (l.take o5 ++ (r ++ l.drop o3))) := HL.out C0 HZ2.out (by rw [HZ.out]; omega)
  have HY2 : Hid (CpOk w1 (some ⟨G, o5, none⟩) (some ⟨h, 0, none⟩) G o5 Y) := fun _ => ⟨rfl, _, rfl, HYs.out w1 (HW3.out.keep HG1.out (by simp))⟩
  have HY3 : Hid (o5 + Y.length ≤ C0.length) := by
    have := HYk.out
    have := HZ.out
    show _ ≤ _
    omega
  clear hC0 HZ2 ho5
  rw [HQ.out] at s5
  rw [HTK.out] at s6
  obtain ⟨w2, hr2, hB2, hG2⟩ := run_copy_in w1 _ _ q (c3 - o5) m c2 G o5 C0 HB1.out Y HY1.out HY2.out HY3.out HY4.out
  have HB2 : Hid (Bk w2 G (splice C0 o5 Y)) := hB2
  have HG2 : Hid (w1.grownBy w2 (some G)) := hG2
  clear hB2 hG2
  go_wp2_with (simp only [hr2])
  have HGd : Hid (Bk w2.drew G (splice C0 o5 Y)) := HB2.out.drew
  have HX2 : Hid (CpOk w2.drew (some ⟨G, o6, none⟩) (some ⟨g, o3, none⟩) G k X) := fun h0 =>
    ⟨by have := HXk.out h0; rw [ho6 (by omega)], _, rfl, HXs.out w2.drew ((HW2.out.keep HG1.out (by simp)).keep HG2.out (by intro e; have := Option.some.inj e; have := HGg.out; omega)).drew⟩
  have HX3 : Hid (k + X.length ≤ (splice C0 o5 Y).length) := by
    have := HXk2.out
    have := HZ.out
    show _ ≤ _
    rw [length_splice _ _ _ HY3.out]; omega
  go_region_law (refine step_copy_in rfl (.tmp 78) (.tmp 81) rfl (by simp [Act.eval, Act.put] <;> rfl) (by simp [Act.eval, Act.put] <;> rfl) G k _ HGd.out X HX1.out HX2.out HX3.out HX4.out ?_; intro w3 HB3 HG3)
  go_wp2
  go_ret
  refine ⟨_, _, _, rfl, Own.of HBw.out HB3.out hc3 (by unfold maxLen; omega) (by rw [length_splice _ _ _ HX3.out, length_splice _ _ _ HY3.out]; exact HZ.out) HLL.out, ?_, .inr ⟨_, rfl, Nat.le_of_eq HGe.out⟩⟩
  have e1 : w.grownBy w1 (Option.map (fun x => x.block) (some (⟨g, 0, none⟩ : Addr))) := by
    have := grown_trans HW1.out HG1.out
    exact ⟨this.os, this.tape, this.output, this.size, fun k hk _ => this.block k hk (by simp)⟩
  exact grown_new (grown_new e1 (by have := HGe.out; omega) HG2.out) (by have := HGe.out; omega) (drew_grown HG3.out)

end Go.Proofs.YtkohjejfkbaffaaGreat

namespace Go.Proofs.YtkohjejfkbaffaaGreat
open Go.RowKit Go.PlainAid

set_option maxRecDepth 100000 in
set_option maxHeartbeats 4000000 in
theorem replace_fit0 (B : Nat) (g n c : Nat) (l : List UInt8) (m c2 : Nat) (r : List UInt8) (i j : Nat) (w : World) (cur : List Value) (hBg : B ≤ g) (hg : Bk w g cur) (hn : n ≤ c) (hcm : c ≤ maxLen) (hcl : cur.length = c) (ht : cur.take n = cells l)
    (hl : l.length = n) (hr : r.length = m) (hm0 : m = 0) (hi : i < j) (hj : j < n) (hb : n + m ≤ 140737488355328) (hx : i + m ≤ j) :
    Calls Tryz.prog 78 #[.slice (some ⟨g, 0, none⟩) n c, .int .i64 i, .int .i64 j, .slice none m c2] w fun e w' => Turned w B (some ⟨g, 0, none⟩) (l.take i ++ (r ++ l.drop j)) e w' := by
  have hcm' := hcm
  unfold maxLen at hcm'
  obtain ⟨k, hK⟩ : ∃ k, i + m = k := ⟨_, rfl⟩
  obtain ⟨d, hD⟩ : ∃ d, n - j = d := ⟨_, rfl⟩
  obtain ⟨t, hT⟩ : ∃ t, k + d = t := ⟨_, rfl⟩
  have hKi : (i : Int) + (m : Int) = k := by omega
  have hTi : (k : Int) + (d : Int) = t := by omega
  obtain ⟨o1, -, s1⟩ := slice_at g n c i j (by omega) (by omega)
  have s2 := slice_hi g n c i (by omega)
  obtain ⟨o3, ho3, s3⟩ := slice_lo g n c j (by omega)
  have hO3 : o3 = j := ho3 (by omega)
  subst hO3
  rw [hD] at s3
  obtain ⟨X, hX⟩ : ∃ X, X = cells (l.drop o3) := ⟨_, rfl⟩
  obtain ⟨Y, hY⟩ : ∃ Y, Y = cells r := ⟨_, rfl⟩
  have hXl : X.length = d := by rw [hX, cells_len, List.length_drop]; omega
  have hYl : Y.length = m := by rw [hY, cells_len]; omega
  have HX4 : Hid (∀ v ∈ X, v.oneCell' = true) := by show ∀ _, _; rw [hX]; exact cells_one _
  have HY4 : Hid (∀ v ∈ Y, v.oneCell' = true) := by show ∀ _, _; rw [hY]; exact cells_one _
  have HM0 : Hid (m = 0) := hm0
  have HXl : Hid (X.length = d) := hXl
  have HYl : Hid (Y.length = m) := hYl
  have HBg : Hid (B ≤ g) := hBg
  have HCM : Hid (c ≤ maxLen) := hcm
  have hz2 : ¬ ((i : Int) = (o3 : Int)) := by omega
  have hz3 : ¬ ((o3 : Int) = (n : Int)) := by omega
  have hwk : IntKind.i64.wrap (k : Int) = k := by rw [IntKind.wrap_i64]; omega
  have hwt : IntKind.i64.wrap (t : Int) = t := by rw [IntKind.wrap_i64]; omega
  have hA : cur.take i = cells (l.take i) := by rw [← cells_take, ← ht, List.take_take, Nat.min_eq_left (by omega)]
  have s4 := slice_hi g n c t (by omega)
  obtain ⟨o5, ho5, s5⟩ := slice_lo g t c k (by omega)
  obtain ⟨o6, ho6, s6⟩ := slice_lo g t c i (by omega)
  obtain ⟨o7, ho7, s7⟩ := slice_lo g n c t (by omega)
  have hO6 : o6 = i := ho6 (by omega)
  subst hO6
  have htk : t - k = d := by omega
  rw [htk] at s5
  have HG : Hid (Bk w g cur) := hg
  have HY1 : Hid (Y.length = Nat.min m (t - o6)) := by show Y.length = min _ _; rw [hYl, Nat.min_def]; split <;> omega
  have HY3 : Hid (o6 + Y.length ≤ cur.length) := by show _ ≤ _; omega
  have hsp : (splice cur o6 Y).length = c := by rw [length_splice _ _ _ HY3.out, hcl]
  have HX1 : Hid (X.length = Nat.min d d) := by show X.length = min _ _; rw [hXl, Nat.min_self]
  have HX2 : Hid (∀ W : World, Bk W g (splice cur o6 Y) → CpOk W (some ⟨g, o5, none⟩) (some ⟨g, o3, none⟩) g k X) := fun W h1 h0 =>
    ⟨by rw [ho5 (by omega)], _, rfl, fun q v hv => by
      have hq := (List.getElem?_eq_some_iff.1 hv).1
      rw [add_flat, h1.cell, splice_get _ _ _ HY3.out, if_neg (by omega), if_neg (by omega)]
      rw [hX] at hv
      have := cell_of hg ht o3 (by omega) q v hv
      rw [add_flat, hg.cell] at this
      exact this⟩
  have HX3 : Hid (k + X.length ≤ (splice cur o6 Y).length) := by show _ ≤ _; omega
  have hsp2 : (splice (splice cur o6 Y) k X).length = c := by rw [length_splice _ _ _ HX3.out, hsp]
  have HL : Hid ((splice (splice cur o6 Y) k X).take t = cells (l.take o6 ++ (r ++ l.drop o3))) := by
    show _ = _
    rw [rep_place1 cur Y X o6 k t (by omega) (by omega) (by omega), hA, hX, hY, cells_append, cells_append]
  have HC : Hid ((splice (splice cur o6 Y) k X).length = c) := hsp2
  have HO7 : Hid (t < n → o7 = t) := by show _ → _; intro; exact ho7 (by omega)
  have hz4 : ((k : Int) ≤ (o3 : Int)) := by omega
  have hz5 : ¬ ((c : Int) < (t : Int)) := by omega
  have htc : t ≤ c := by omega
  have htn : t ≤ n := by omega
  have hkt : k ≤ t := by omega
  have hit : o6 ≤ t := by omega
  clear hX hY hXl hYl ht hcl hg ho3 ho5 ho6 ho7 hBg hm0 hD hK hT hcm hA htk hsp hsp2
  go_enter Tryz.func78, Tryz.ntmps78
  go_wp2_with fail
  go_quiet (fail)
  have HW1 : Hid (w.grownBy (w.drewN nq) (some g)) := grown_drewN w nq _
  have HW2 : Hid (Bk (w.drewN nq) g cur) := HG.out.drewN nq
  generalize w.drewN nq = W at *
  have HY2 : Hid (CpOk W (some ⟨g, o6, none⟩) none g o6 Y) := fun h0 => absurd h0 (by have := HYl.out; have := HM0.out; omega)
  obtain ⟨w1, hr1, hB1, hG1⟩ := run_copy_in W _ _ (t - o6) (c - o6) m c2 g o6 _ HW2.out Y HY1.out HY2.out HY3.out HY4.out
  have HB1 : Hid (Bk w1 g (splice cur o6 Y)) := hB1
  have HG1 : Hid (W.grownBy w1 (some g)) := hG1
  clear hB1 hG1
  go_wp2_with (simp only [hr1])
  have HWd : Hid (Bk w1.drew g (splice cur o6 Y)) := HB1.out
  have HX2d := HX2.out w1.drew HWd.out
  have HX2' : Hid (CpOk w1.drew (some ⟨g, o5, none⟩) (some ⟨g, o3, none⟩) g k X) := HX2d
  clear HX2d
  go_region_law (refine step_copy_in rfl (.tmp 103) (.tmp 106) rfl (by simp [Act.eval, Act.put] <;> rfl) (by simp [Act.eval, Act.put] <;> rfl) g k _ HWd.out X HX1.out HX2'.out HX3.out HX4.out ?_; intro w2 HB2 HG2)
  by_cases h7 : t < n
  · have h8 : o7 = t := HO7.out h7
    subst h8
    have HF : Hid (o7 + (n - o7) ≤ (splice (splice cur o6 Y) k X).length) := by show _ ≤ _; rw [HC.out]; omega
    go_wp2_with (refine clear_in rfl (.tmp 110) rfl rfl _ HB2.out HF.out ?_; intro w3 HB3 HG3)
    go_ret
    refine ⟨_, _, _, rfl, Own.of HBg.out HB3.out htc HCM.out ?_ ?_, grown_trans (grown_trans (grown_trans HW1.out HG1.out) (drew_grown HG2.out)) HG3.out, .inl rfl⟩
    · exact (length_splice _ _ _ (by rw [List.length_replicate]; exact HF.out)).trans HC.out
    · exact (take_splice_low _ _ _ _ (Nat.le_refl _) (Nat.le_trans htc (Nat.le_of_eq HC.out.symm))).trans HL.out
  · have h8 : t = n := by omega
    subst h8
    have hrc : ∀ o c', ∀ ty, (Builtin.clear_ #[23] ty #[.slice (some ⟨g, o, none⟩) 0 c']).run Tryz.prog w2 = .ok (.tuple #[]) w2 := by
      intro o c' ty
      simp [Builtin.clear_, run_underlying Tryz.underlying23]
    rw [Nat.sub_self] at s7
    go_wp2_with (simp only [hrc])
    go_ret
    exact ⟨_, _, _, rfl, Own.of HBg.out HB2.out htc HCM.out HC.out HL.out, grown_trans (grown_trans HW1.out HG1.out) (drew_grown HG2.out), .inl rfl⟩


set_option maxRecDepth 100000 in
set_option maxHeartbeats 4000000 in
/-- To the end, by nothing. -/
theorem replace_end0 (B : Nat) (g n c : Nat) (l : List UInt8) (i : Nat) (w : World) (cur : List Value) (hBg : B ≤ g) (hg : Bk w g cur) (hn : n ≤ c) (hcm : c ≤ maxLen) (hcl : cur.length = c) (ht : cur.take n = cells l)
    (hl : l.length = n) (hi : i < n) :
    Calls Tryz.prog 78 #[.slice (some ⟨g, 0, none⟩) n c, .int .i64 i, .int .i64 n, .slice none 0 0] w fun e w' => Turned w B (some ⟨g, 0, none⟩) (l.take i ++ l.drop n) e w' := by
  have hcm' := hcm
  unfold maxLen at hcm'
  obtain ⟨o1, -, s1⟩ := slice_at g n c i n (by omega) (by omega)
  have s2 := slice_hi g n c i (by omega)
  obtain ⟨o3, ho3, s3⟩ := slice_lo g n c i (by omega)
  have hO3 : o3 = i := ho3 (by omega)
  subst hO3
  have hA : cur.take o3 = cells (l.take o3) := by rw [← cells_take, ← ht, List.take_take, Nat.min_eq_left (by omega)]
  have HO : Own w B (some ⟨g, 0, none⟩) o3 c (l.take o3) := Own.of hBg hg (by omega) hcm hcl hA
  obtain ⟨i0, hi0, hz0, hz1, hz2⟩ := info_parts Tryz.info5
  have hr1 := fun ty => run_append_owned_none (P := Tryz.prog) w B 23 ty 5 i0 1 Tryz.underlying23 hi0 (.slice (some ⟨g, 0, none⟩) o3 c) o3 (cells (l.take o3)) HO
  have HB1 : Hid (Bk w g cur) := hg
  have HF : Hid (o3 + (n - o3) ≤ cur.length) := by show _ ≤ _; rw [hcl]; omega
  have HF2 : Hid (cur.length = c) := hcl
  have HL : Hid (cur.take o3 = cells (l.take o3 ++ l.drop n)) := by
    show _ = _
    rw [List.drop_eq_nil_of_le (by omega), List.append_nil]; exact hA
  have HBg : Hid (B ≤ g) := hBg
  have HM : Hid (c ≤ maxLen) := hcm
  have hz2 : ¬ ((o3 : Int) = (n : Int)) := by omega
  have hz3 : ((o3 : Int) < (n : Int)) := by omega
  have hoc : o3 ≤ c := by omega
  clear ht hcl hg hBg ho3 hcm hA HO hi0 hz0 hz1
  go_enter Tryz.func78, Tryz.ntmps78
  go_wp2_with (first | (at_builtin; refine Lib.wpList_append_run _ rfl (.tmp 32) (.tmp 33) 23 23 rfl _ _ rfl rfl _ _ (hr1 _) ?_) | (refine clear_in rfl (.tmp 43) rfl rfl _ HB1.out HF.out ?_; intro w2 HB2 HG2))
  go_ret
  refine ⟨_, _, _, rfl, Own.of HBg.out HB2.out hoc HM.out ?_ ?_, HG2.out, .inl rfl⟩
  · exact (length_splice _ _ _ (by rw [List.length_replicate]; exact HF.out)).trans HF2.out
  · exact (take_splice_low _ _ _ _ (Nat.le_refl _) (Nat.le_trans hoc (Nat.le_of_eq HF2.out.symm))).trans HL.out
end Go.Proofs.YtkohjejfkbaffaaGreat

namespace Go.Proofs.YtkohjejfkbaffaaGreat
open Go.RowKit Go.PlainAid

/-- slices.Replace. -/
theorem Replace_sl (B C : Nat) (a : Option Addr) (n c : Nat) (l : List UInt8) (a2 : Option Addr) (m c2 : Nat) (r : List UInt8) (i j : Nat) (w : World) (hO : Own w B a n c l) (hV : Own w C a2 m c2 r) (hC : ∀ x, a = some x → x.block < C) (hi : i ≤ j) (hj : j ≤ n) (hm : 0 < m ∨ a2 = none) (hb : n + m ≤ 140737488355328) (hB : B ≤ w.heap.size) :
    Calls Tryz.prog 78 #[.slice a n c, .int .i64 i, .int .i64 j, .slice a2 m c2] w fun e w' => Turned w B a (l.take i ++ (r ++ l.drop j)) e w' := by
  have hl := hO.len
  have hr := hV.len
  by_cases hij : i = j
  · subst hij
    exact replace_none B C a n c l a2 m c2 r i w hO hV hC hj hb hB
  · obtain ⟨g, cur, rfl, h1, h2, h3, h4, h5, h6⟩ := hO.parts (by omega)
    rcases Nat.eq_zero_or_pos m with hm0 | hm1
    · have ha : a2 = none := hm.resolve_left (by omega)
      subst ha
      subst hm0
      have hr0 : r = [] := List.length_eq_zero_iff.1 hr
      subst hr0
      have hc2 : c2 = 0 := hV.rd.nul rfl
      subst hc2
      by_cases hjn : j = n
      · subst hjn
        exact replace_end0 B g j c l i w cur h1 h2 h3 h4 h5 h6 hl (by omega)
      · exact replace_fit0 B g n c l 0 0 [] i j w cur h1 h2 h3 h4 h5 h6 hl rfl rfl (by omega) (by omega) (by omega) (by omega)
    have hrd := hV.rd
    obtain ⟨h, cv, rfl, k1, k2, k3, k4, k5, k6⟩ := hV.parts (by omega)
    have hne : h ≠ g := by have := hC _ rfl; simp at this; omega
    by_cases hjn : j = n
    · subst hjn
      by_cases hx : i + m < j
      · exact replace_less B g j c l h m c2 r i w cur h1 h2 hrd h3 h4 h5 h6 hl (by omega) hx
      · exact replace_end B g j c l h m c2 r i w cur h1 hB h2 hrd h3 h4 h5 h6 hl (by omega) (by omega) hb
    · by_cases hroom : i + m + (n - j) ≤ c
      · by_cases hx : i + m ≤ j
        · exact replace_fit B g n c l h m c2 r i j w cur cv h1 h2 k2 hne h3 h4 h5 h6 k6 hl hr (by omega) (by omega) hb hx
        · exact replace_wide B g n c l h m c2 r i j w cur cv h1 h2 k2 hne h3 h4 h5 h6 k6 (by omega) hl hr (by omega) (by omega) hb (by omega) hroom
      · exact replace_new B g n c l h m c2 r i j w cur cv hB h2 k2 h3 h4 h5 h6 k6 hl hr (by omega) (by omega) hb (by omega)
end Go.Proofs.YtkohjejfkbaffaaGreat

namespace Go.Proofs.YtkohjejfkbaffaaGreat
open Go.RowKit Go.PlainAid

/-- A world that has more than w had, at its end alone. -/
structure Ext (w : World) where
  wx : World
  ok : Below w.heap.size w wx

theorem wp_region_ext {P : Program} {id : Nat} {Q : Exit → Act → World → Prop} {a : Act} {w : World} {l : List Oper} (hm : P.follows .mixedOrders = true) (hB : Region.lexB .any l.toArray = true)
    (h : wpQuiet P l.toArray (fun w' => ∃ x : Ext w, w' = x.wx) (fun a' => ∀ w', (∃ x : Ext w, w' = x.wx) → Q .normal a' w') l a) : (Code.region id l.toArray true).wp P Q a w :=
  wp_region_quiet (C := fun w' => ∃ x : Ext w, w' = x.wx) hm hB ⟨⟨_, (Below.refl _ _).drew⟩, rfl⟩ (by simpa using h)

theorem Calls.ext_of {P : Program} {f : FuncId} {args : Array Value} {w : World} {x : Ext w} {v : Value}
    (h : Calls P f args x.wx fun e w' => Below x.wx.heap.size x.wx w' ∧ e = .returned v) : Calls P f args x.wx fun e w'' => e = .returned v ∧ ∃ y : Ext w, w'' = y.wx :=
  h.mono fun _ w' ⟨hb, he⟩ => ⟨he, ⟨w', x.ok.trans (hb.mono x.ok.size)⟩, rfl⟩
end Go.Proofs.YtkohjejfkbaffaaGreat
