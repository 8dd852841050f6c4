/- Texts that the others stand on. -/
import Derived.Test.YtmjeljldmmkcpaaGreatK20
set_option maxRecDepth 100000
set_option maxHeartbeats 4000000
namespace Go.Proofs.YtmjeljldmmkcpaaGreat
open Go.RowKit Go.PlainAid
def Cb (w : World) (B : Nat) (a : Option Addr) (l : List UInt8) (e : Ending) (w' : World) : Prop :=
 ∃ a' n' c', e = .returned (.slice a' n' c') ∧ Own w' B a' n' c' l ∧ w.grownBy w' (a.map (·.block)) ∧ Went w a a'
theorem splice_get (L : List Value) (off : Nat) (cs : List Value) (h : off + cs.length ≤ L.length) (j : Nat) : (splice L off cs)[j]? = if j < off then L[j]? else if j < off + cs.length then cs[j - off]? else L[j]? := by
 unfold splice
 rw [List.getElem?_append, List.length_take, Nat.min_eq_left (by omega)]
 split
 ·rw [List.getElem?_take, if_pos (by assumption)]
 ·rw [List.getElem?_append]
  split
  ·rw [if_pos (by omega)]
  ·rw [if_neg (by omega), List.getElem?_drop]; congr 1; omega
theorem get_take (L : List Value) (n j : Nat) : (L.take n)[j]? = if j < n then L[j]? else none := List.getElem?_take
theorem of_take {cur L : List Value} {n : Nat} (h : cur.take n = L) (j : Nat) (hj : j < n) : cur[j]? = L[j]? := by rw [← h, List.getElem?_take, if_pos hj]
theorem ins_place (cur L R : List Value) (i m n : Nat) (h : cur.take n = L) (hL : L.length = n) (hR : R.length = m) (hc : n + m ≤ cur.length) (hi : i ≤ n) :
  (splice (splice cur (i + m) (L.drop i)) i R).take (n + m) = L.take i ++ (R ++ L.drop i) := by
 have h1 : (splice cur (i + m) (L.drop i)).length = cur.length := length_splice _ _ _ (by rw [List.length_drop]; omega)
 apply List.ext_getElem?
 intro j
 rw [get_take, splice_get _ _ _ (by rw [h1]; omega), splice_get _ _ _ (by rw [List.length_drop]; omega), List.getElem?_append, List.getElem?_append, List.length_take, List.length_drop, Nat.min_eq_left (by omega), get_take, List.getElem?_drop, List.getElem?_drop]
 have ho := of_take h j
 split
 ·split
  ·rw [if_pos (by omega), ← ho (by omega)]
  ·split
   ·rw [if_pos (by omega)]
   ·rw [if_neg (by omega), if_pos (by omega), if_neg (by omega)]; congr 1; omega
 ·rw [if_neg (by omega), if_neg (by omega), List.getElem?_eq_none (by omega)]
theorem ins_new (Z L R : List Value) (i m n : Nat) (hL : L.length = n) (hR : R.length = m) (hZ : n + m ≤ i + Z.length) (hi : i ≤ n) :
  (splice (splice (L.take i ++ Z) i R) (i + m) (L.drop i)).take (n + m) = L.take i ++ (R ++ L.drop i) := by
 have h0 : (L.take i ++ Z).length = i + Z.length := by rw [List.length_append, List.length_take]; omega
 have h1 : (splice (L.take i ++ Z) i R).length = i + Z.length := by rw [length_splice _ _ _ (by omega), h0]
 apply List.ext_getElem?
 intro j
 rw [get_take, splice_get _ _ _ (by rw [h1, List.length_drop]; omega), splice_get _ _ _ (by omega), List.getElem?_append, List.getElem?_append, List.getElem?_append, List.length_take, List.length_drop, Nat.min_eq_left (by omega), get_take, List.getElem?_drop, List.getElem?_drop]
 split
 ·split
  ·split
   ·rfl
   ·rw [if_pos (by omega), if_pos (by omega)]
  ·rw [if_pos (by omega), if_neg (by omega), if_neg (by omega)]; congr 1; omega
 ·rw [if_neg (by omega), if_neg (by omega), List.getElem?_eq_none (by omega)]
theorem A7 (l : List UInt8) : (cells l).length = l.length := List.length_map ..
theorem B9 (l : List UInt8) (n : Nat) : (cells l).take n = cells (l.take n) := (List.map_take ..).symm
theorem cells_drop (l : List UInt8) (n : Nat) : (cells l).drop n = cells (l.drop n) := (List.map_drop ..).symm
theorem apart_any {w : World} {g h : Nat} {cg ch : List Value} (hg : Bk w g cg) (hh : Bk w h ch) (hne : g ≠ h) (hpos : ch.length ≠ 0) (o o' la ca lb cb : Nat) :
  (callFunc 270 #[.slice (some ⟨g, o, none⟩) la ca, .slice (some ⟨h, o', none⟩) lb cb]).run Tryz.prog w = .ok (.value (.bool false)) w := by
 rw [run_callFunc_extern Tryz.func270 (by kernel_rfl) (by kernel_rfl) (by kernel_rfl) (e := Extern.SlicesOverlaps.overlaps #[32, 32] #[4]) (by kernel_rfl),
   Lib.run_overlaps_apart w 32 4 5 Tryz.underlying32 1 Tryz.size5 ⟨g, o, none⟩ ⟨h, o', none⟩ la ca lb cb hne 5 5 _ _ hg.shape hh.shape hpos (hg.frozen _) (hg.frozen _)]
 rfl
theorem insert_none (B : Nat) (a : Option Addr) (n c : Nat) (l : List UInt8) (a2 : Option Addr) (c2 i : Nat) (w : World) (hO : Own w B a n c l) (hi : i ≤ n) :
  Calls Tryz.prog 269 #[.slice a n c, .int .i64 i, .slice a2 0 c2] w fun e w' => Cb w B a l e w' := by
 obtain ⟨a3, c3, hsl, -⟩ := hO.rd.slice_l i hi
 have HO : Hid (Own w B a n c l) := hO
 clear hO
 go_enter Tryz.func269, Tryz.ntmps269
 go_wp2
 go_ret
 exact ⟨_, _, _, rfl, HO.out, Cq _ _, .inl rfl⟩
theorem insert_end (B : Nat) (a : Option Addr) (n c : Nat) (l : List UInt8) (a2 : Option Addr) (m c2 : Nat) (r : List UInt8) (w : World) (hO : Own w B a n c l) (hV : Rd w a2 m c2 r) (hm : 0 < m) (hb : n + m ≤ 140737488355328) (hB : B ≤ w.heap.size) :
  Calls Tryz.prog 269 #[.slice a n c, .int .i64 n, .slice a2 m c2] w fun e w' => Cb w B a (l.take n ++ (r ++ l.drop n)) e w' := by
 obtain ⟨a3, c3, hsl, -⟩ := hO.rd.slice_l n (Nat.le_refl _)
 have HO : Hid (Own w B a n c l) := hO
 have HV : Hid (Rd w a2 m c2 r) := hV
 have HM : Hid (n + m ≤ 140737488355328) := hb
 have HB : Hid (B ≤ w.heap.size) := hB
 have HL : Hid (l.take n ++ (r ++ l.drop n) = l ++ r) := by
  have := hO.len
  show _ = _
  rw [List.take_of_length_le (by omega), List.drop_eq_nil_of_le (by omega), List.append_nil]
 clear hO hV
 have hz1 : ¬ ((m : Int) = 0) := by omega
 go_enter Tryz.func269, Tryz.ntmps269
 go_wp2_with (at_builtin; refine append_rowG rfl (.tmp 23) (.tmp 24) rfl B rfl HO.out rfl HV.out HM.out HB.out ?_; intro a4 n4 c4 w4 hn4 HO4 HG4 HW4; clear hn4)
 go_ret
 exact ⟨_, _, _, rfl, by rw [HL.out]; exact HO4.out, HG4.out, HW4.out⟩
theorem cell_of {w : World} {g : Nat} {cur : List Value} {l : List UInt8} {n : Nat} (hB : Bk w g cur) (ht : cur.take n = cells l) (i : Nat) (hl : l.length ≤ n) : ∀ j v, (cells (l.drop i))[j]? = some v → w.cell? ((⟨g, i, none⟩ : Addr).add j) = some v := by
 intro j v hv
 rw [Af, hB.cell]
 have hj : i + j < l.length := by
  rw [← cells_drop, List.getElem?_drop] at hv
  have := (List.getElem?_eq_some_iff.1 hv).1
  rwa [A7] at this
 rw [of_take ht _ (by omega)]
 rw [← cells_drop, List.getElem?_drop] at hv
 exact hv
theorem cell_all {w : World} {g : Nat} {cur : List Value} {l : List UInt8} {n : Nat} (hB : Bk w g cur) (ht : cur.take n = cells l) (hl : l.length ≤ n) : ∀ j v, (cells l)[j]? = some v → w.cell? ((⟨g, 0, none⟩ : Addr).add j) = some v := by
 intro j v hv
 exact cell_of hB ht 0 hl j v (by simpa using hv)
theorem insert_room (B : Nat) (g n c : Nat) (l : List UInt8) (h m c2 : Nat) (r : List UInt8) (i : Nat) (w : World) (cur cv : List Value) (hBg : B ≤ g) (hg : Bk w g cur) (hh : Bk w h cv) (hne : h ≠ g) (hn : n ≤ c) (hcm : c ≤ maxLen) (hcl : cur.length = c) (ht : cur.take n = cells l) (htv : cv.take m = cells r)
  (hl : l.length = n) (hr : r.length = m) (hi : i < n) (hm : 0 < m) (hroom : n + m ≤ c) :
  Calls Tryz.prog 269 #[.slice (some ⟨g, 0, none⟩) n c, .int .i64 i, .slice (some ⟨h, 0, none⟩) m c2] w fun e w' => Cb w B (some ⟨g, 0, none⟩) (l.take i ++ (r ++ l.drop i)) e w' := by
 unfold maxLen at hcm
 obtain ⟨t, hT⟩ : ∃ t, n + m = t := ⟨_, rfl⟩
 obtain ⟨k, hK⟩ : ∃ k, i + m = k := ⟨_, rfl⟩
 have hTi : (n : Int) + (m : Int) = t := by omega
 have hKi : (i : Int) + (m : Int) = k := by omega
 obtain ⟨o1, -, s1⟩ := Az g n c i (by omega)
 have s2 := Bq g n c t (by omega)
 obtain ⟨o3, ho3, s3⟩ := Az g t c k (by omega)
 obtain ⟨o4, ho4, s4⟩ := Az g t c i (by omega)
 have hO3 : Hid (k < c → o3 = k) := ho3
 have hO4 : o4 = i := ho4 (by omega)
 subst hO4
 have hov := fun lb cb => apart_any hh hg hne (by omega) 0 o3 m c2 lb cb
 have HG : Hid (Bk w.drew g cur) := hg.drew
 have HH : Hid (Bk w h cv) := hh
 obtain ⟨X, hX⟩ : ∃ X, X = cells (l.drop o4) := ⟨_, rfl⟩
 obtain ⟨Y, hY⟩ : ∃ Y, Y = cells r := ⟨_, rfl⟩
 have hXl : X.length = n - o4 := by rw [hX, A7, List.length_drop]; omega
 have hYl : Y.length = m := by rw [hY, A7]; omega
 have HX1 : Hid (X.length = Nat.min (t - o4) (t - k)) := by show X.length = min _ _; rw [hXl, Nat.min_def]; split <;> omega
 have HX2 : Hid (CpOk w.drew (some (⟨g, o3, none⟩ : Addr)) (some (⟨g, o4, none⟩ : Addr)) g k X) := fun h0 =>
  ⟨by rw [ho3 (by omega)], _, rfl, by rw [hX]; exact cell_of hg.drew ht o4 (by omega)⟩
 have HX3 : Hid (k + X.length ≤ cur.length) := by show _ ≤ _; omega
 have HX4 : Hid (∀ v ∈ X, v.oneCell' = true) := by show ∀ _, _; rw [hX]; exact Bd _
 have HY1 : Hid (Y.length = Nat.min m (t - o4)) := by show Y.length = min _ _; rw [hYl, Nat.min_def]; split <;> omega
 have HY4 : Hid (∀ v ∈ Y, v.oneCell' = true) := by show ∀ _, _; rw [hY]; exact Bd _
 have HYs : Hid (∀ w1 : World, Bk w1 h cv → ∀ j v, Y[j]? = some v → w1.cell? ((⟨h, 0, none⟩ : Addr).add j) = some v) := by
  show ∀ _, _
  intro w1 h1
  rw [hY]; exact cell_all h1 htv (by omega)
 have HY3 : Hid (o4 + Y.length ≤ (splice cur k X).length) := by show _ ≤ _; rw [length_splice _ _ _ HX3.out]; omega
 have HL : Hid ((splice (splice cur k X) o4 Y).take t = cells (l.take o4 ++ (r ++ l.drop o4))) := by
  show _ = _
  rw [← hT, ← hK, hX, hY, Av, Av, ← B9, ← cells_drop]
  exact ins_place cur (cells l) (cells r) o4 m n ht (by rw [A7]; omega) (by rw [A7]; omega) (by omega) (by omega)
 have HC : Hid ((splice (splice cur k X) o4 Y).length = c) := by show _ = _; rw [length_splice _ _ _ HY3.out, length_splice _ _ _ HX3.out, hcl]
 have HN : Hid (some h ≠ some g) := fun e => hne (Option.some.inj e)
 have HBg : Hid (B ≤ g) := hBg
 have hz1 : ¬ ((m : Int) = 0) := by omega
 have hz2 : ¬ ((o4 : Int) = (n : Int)) := by omega
 have hw1 : IntKind.i64.wrap (k : Int) = k := by rw [IntKind.wrap_i64]; omega
 clear hX hY hXl hYl ht htv hcl hg hh ho3 ho4 hBg hne
 go_enter Tryz.func269, Tryz.ntmps269
 go_wp2_with (simp only [hov])
 go_region_law (refine Cn rfl (.tmp 73) (.tmp 76) rfl (by simp [Act.eval, Act.put]; rfl) (by simp [Act.eval, Act.put]; rfl) g k cur HG.out X HX1.out HX2.out HX3.out HX4.out ?_; intro w1 HB1 HG1)
 have HY2 : Hid (CpOk w1 (some (⟨g, o4, none⟩ : Addr)) (some (⟨h, 0, none⟩ : Addr)) g o4 Y) := fun _ =>
  ⟨rfl, _, rfl, HYs.out w1 (HH.out.keep (Bn HG1.out) HN.out)⟩
 go_wp2_with (refine copy_in rfl (.tmp 80) (.tmp 81) rfl rfl rfl g o4 _ HB1.out Y HY1.out HY2.out HY3.out HY4.out ?_; intro w2 HB2 HG2)
 go_ret
 exact ⟨_, _, _, rfl, Own.of HBg.out HB2.out (by omega) (by unfold maxLen; omega) HC.out HL.out, As (Bn HG1.out) HG2.out, .inl rfl⟩
theorem insert_grow (B : Nat) (g n c : Nat) (l : List UInt8) (h m c2 : Nat) (r : List UInt8) (i : Nat) (w : World) (cur cv : List Value) (hBw : B ≤ w.heap.size) (hg : Bk w g cur) (hh : Bk w h cv) (hn : n ≤ c) (hcm : c ≤ maxLen) (hcl : cur.length = c) (ht : cur.take n = cells l) (htv : cv.take m = cells r)
  (hl : l.length = n) (hr : r.length = m) (hi : i < n) (hm : 0 < m) (hroom : c < n + m) (hb : n + m ≤ 140737488355328) :
  Calls Tryz.prog 269 #[.slice (some ⟨g, 0, none⟩) n c, .int .i64 i, .slice (some ⟨h, 0, none⟩) m c2] w fun e w' => Cb w B (some ⟨g, 0, none⟩) (l.take i ++ (r ++ l.drop i)) e w' := by
 unfold maxLen at hcm
 obtain ⟨t, hT⟩ : ∃ t, n + m = t := ⟨_, rfl⟩
 obtain ⟨k, hK⟩ : ∃ k, i + m = k := ⟨_, rfl⟩
 obtain ⟨q, hQ⟩ : ∃ q, t - i = q := ⟨_, rfl⟩
 have hTi : (n : Int) + (m : Int) = t := by omega
 have hKi : (i : Int) + (m : Int) = k := by omega
 have hQi : (t : Int) - (i : Int) = q := by omega
 have hct : (c : Int) < t := by omega
 obtain ⟨G, hG⟩ : ∃ G, w.heap.size = G := ⟨_, rfl⟩
 obtain ⟨o1, ho1, s1⟩ := Az g n c i (by omega)
 have hO1 : o1 = i := ho1 (by omega)
 subst hO1
 have s2 := Bq g n c o1 (by omega)
 have HA1 : Hid (0 < q) := by show _ < _; omega
 have HA2 : Hid (o1 ≤ cur.length) := by show _ ≤ _; omega
 have HA3 : Hid (c < o1 + q) := by show _ < _; omega
 have HA4 : Hid (o1 + q ≤ 140737488355328) := by show _ ≤ _; omega
 have HG : Hid (Bk w g cur) := hg
 have HH : Hid (Bk w h cv) := hh
 obtain ⟨X, hX⟩ : ∃ X, X = cells (l.drop o1) := ⟨_, rfl⟩
 obtain ⟨Y, hY⟩ : ∃ Y, Y = cells r := ⟨_, rfl⟩
 have hXl : X.length = n - o1 := by rw [hX, A7, List.length_drop]; omega
 have hYl : Y.length = m := by rw [hY, A7]; omega
 have HX1 : Hid (X.length = Nat.min (n - o1) (t - k)) := by show X.length = min _ _; rw [hXl, Nat.min_def]; split <;> omega
 have HX4 : Hid (∀ v ∈ X, v.oneCell' = true) := by show ∀ _, _; rw [hX]; exact Bd _
 have HXs : Hid (∀ w1 : World, Bk w1 g cur → ∀ j v, X[j]? = some v → w1.cell? ((⟨g, o1, none⟩ : Addr).add j) = some v) := by
  show ∀ _, _
  intro w1 h1
  rw [hX]; exact cell_of h1 ht o1 (by omega)
 have HXk : Hid (0 < X.length → k < t) := by show _ → _; omega
 have HXk2 : Hid (k + X.length = t) := by show _ = _; omega
 have HY1 : Hid (Y.length = Nat.min m q) := by show Y.length = min _ _; rw [hYl, Nat.min_def]; split <;> omega
 have HYk : Hid (o1 + Y.length ≤ t) := by show _ ≤ _; omega
 have HY4 : Hid (∀ v ∈ Y, v.oneCell' = true) := by show ∀ _, _; rw [hY]; exact Bd _
 have HYs : Hid (∀ w1 : World, Bk w1 h cv → ∀ j v, Y[j]? = some v → w1.cell? ((⟨h, 0, none⟩ : Addr).add j) = some v) := by
  show ∀ _, _
  intro w1 h1
  rw [hY]; exact cell_all h1 htv (by omega)
 have HL : Hid (∀ Z : List Value, t ≤ o1 + Z.length → (splice (splice (cur.take o1 ++ Z) o1 Y) k X).take t = cells (l.take o1 ++ (r ++ l.drop o1))) := by
  show ∀ _, _
  intro Z hZ
  rw [← hT, ← hK, hX, hY, Av, Av, ← B9, ← cells_drop]
  have e : cur.take o1 = (cells l).take o1 := by rw [← ht, List.take_take, Nat.min_eq_left (by omega)]
  rw [e]
  exact ins_new Z (cells l) (cells r) o1 m n (by rw [A7]; omega) (by rw [A7]; omega) (by omega) (by omega)
 have HT : Hid (o1 + q = t) := by show _ = _; omega
 have HBw : Hid (B ≤ G) := by show _ ≤ _; omega
 have HGg : Hid (g < G) := by have := hg.lt; show _ < _; omega
 have HGh : Hid (h < G) := by have := hh.lt; show _ < _; omega
 have HGe : Hid (w.heap.size = G) := hG
 have hz1 : ¬ ((m : Int) = 0) := by omega
 have hz2 : ¬ ((o1 : Int) = (n : Int)) := by omega
 have hw1 : IntKind.i64.wrap (k : Int) = k := by rw [IntKind.wrap_i64]; omega
 have hkt : k ≤ t := by omega
 have hot : o1 ≤ t := by omega
 clear hX hY hXl hYl ht htv hcl hg hh ho1 hG hQ
 go_enter Tryz.func269, Tryz.ntmps269
 go_wp2_with (at_builtin; refine append_zeros rfl (.tmp 34) (.tmp 39) rfl rfl rfl q rfl HA1.out cur HG.out HA2.out HA3.out HA4.out ?_; intro c3 w1 hc3 hc4 HB1 HG1)
 rw [HGe.out] at HB1
 rw [HT.out] at hc3
 rw [HGe.out, HT.out]
 unfold maxLen at hc4
 obtain ⟨o3, ho3, s3⟩ := Az G t c3 o1 (by omega)
 obtain ⟨o4, ho4, s4⟩ := Az G t c3 k (by omega)
 have hO3 : o3 = o1 := ho3 (by omega)
 subst hO3
 have HZ : Hid ((cur.take o3 ++ List.replicate (c3 - o3) (Value.int .u8 0)).length = c3) := by
  have := HA2.out
  show _ = _
  rw [List.length_append, List.length_take, List.length_replicate]; omega
 have HZ2 : Hid (t ≤ o3 + (List.replicate (c3 - o3) (Value.int .u8 0)).length) := by show _ ≤ _; rw [List.length_replicate]; omega
 obtain ⟨Z, hZ⟩ : ∃ Z, List.replicate (c3 - o3) (Value.int .u8 0) = Z := ⟨_, rfl⟩
 rw [hZ] at HB1 HZ HZ2
 obtain ⟨C0, hC0⟩ : ∃ C0, cur.take o3 ++ Z = C0 := ⟨_, rfl⟩
 have HLL := HL.out Z HZ2.out
 rw [hC0] at HB1 HZ HLL
 have HLL' : Hid ((splice (splice C0 o3 Y) k X).take t = cells (l.take o3 ++ (r ++ l.drop o3))) := HLL
 have HY2 : Hid (CpOk w1 (some (⟨G, o3, none⟩ : Addr)) (some (⟨h, 0, none⟩ : Addr)) G o3 Y) := fun _ =>
  ⟨rfl, _, rfl, HYs.out w1 (HH.out.keep HG1.out (by simp))⟩
 have HY3 : Hid (o3 + Y.length ≤ C0.length) := by
  have := HYk.out
  have := HZ.out
  show _ ≤ _
  omega
 clear HLL hZ hC0 HZ2 ho3
 obtain ⟨w2, hr2, hB2, hG2⟩ := Ck w1 _ _ q (c3 - o3) m c2 G o3 C0 HB1.out Y HY1.out HY2.out HY3.out HY4.out
 have HB2 : Hid (Bk w2 G (splice C0 o3 Y)) := hB2
 have HG2 : Hid (w1.grownBy w2 (some G)) := hG2
 clear hB2 hG2
 go_wp2_with (simp only [hr2])
 have HGd : Hid (Bk w2.drew G (splice C0 o3 Y)) := HB2.out.drew
 have HX2 : Hid (CpOk w2.drew (some (⟨G, o4, none⟩ : Addr)) (some (⟨g, o3, none⟩ : Addr)) G k X) := fun h0 =>
  ⟨by have := HXk.out h0; rw [ho4 (by omega)], _, rfl, HXs.out w2.drew ((HG.out.keep HG1.out (by simp)).keep HG2.out (by intro e; have := Option.some.inj e; have := HGg.out; omega)).drew⟩
 have HX3 : Hid (k + X.length ≤ (splice C0 o3 Y).length) := by
  have := HXk2.out
  have := HZ.out
  show _ ≤ _
  rw [length_splice _ _ _ HY3.out]; omega
 go_region_law (refine Cn rfl (.tmp 50) (.tmp 53) rfl (by simp [Act.eval, Act.put]; rfl) (by simp [Act.eval, Act.put]; rfl) G k _ HGd.out X HX1.out HX2.out HX3.out HX4.out ?_; intro w3 HB3 HG3)
 go_wp2
 go_ret
 refine ⟨_, _, _, rfl, Own.of HBw.out HB3.out hc3 (by unfold maxLen; omega) (by rw [length_splice _ _ _ HX3.out, length_splice _ _ _ HY3.out]; exact HZ.out) HLL'.out, ?_, .inr ⟨_, rfl, Nat.le_of_eq HGe.out⟩⟩
 have e1 : w.grownBy w1 (Option.map (fun x => x.block) (some (⟨g, 0, none⟩ : Addr))) := ⟨HG1.out.os, HG1.out.tape, HG1.out.output, HG1.out.size, fun k hk _ => HG1.out.block k hk (by simp)⟩
 exact grown_new (grown_new e1 (by have := HGe.out; omega) HG2.out) (by have := HGe.out; omega) (Bn HG3.out)
theorem Insert_sl (B C : Nat) (a : Option Addr) (n c : Nat) (l : List UInt8) (a2 : Option Addr) (m c2 : Nat) (r : List UInt8) (i : Nat) (w : World) (hO : Own w B a n c l) (hV : Own w C a2 m c2 r) (hC : ∀ x, a = some x → x.block < C) (hi : i ≤ n) (hb : n + m ≤ 140737488355328) (hB : B ≤ w.heap.size) :
  Calls Tryz.prog 269 #[.slice a n c, .int .i64 i, .slice a2 m c2] w fun e w' => Cb w B a (l.take i ++ (r ++ l.drop i)) e w' := by
 have hl := hO.len
 have hr := hV.len
 by_cases hm : m = 0
 ·subst hm
  have h0 : r = [] := List.length_eq_zero_iff.1 hr
  subst h0
  rw [List.nil_append, List.take_append_drop]
  exact insert_none B a n c l a2 c2 i w hO hi
 ·by_cases hin : i = n
  ·subst hin
   exact insert_end B a i c l a2 m c2 r w hO hV.rd (by omega) hb hB
  ·obtain ⟨g, cur, rfl, h1, h2, h3, h4, h5, h6⟩ := hO.parts (by omega)
   obtain ⟨h, cv, rfl, k1, k2, k3, k4, k5, k6⟩ := hV.parts (by omega)
   have hne : h ≠ g := by have := hC _ rfl; simp at this; omega
   by_cases hroom : n + m ≤ c
   ·exact insert_room B g n c l h m c2 r i w cur cv h1 h2 k2 hne h3 h4 h5 h6 k6 hl hr (by omega) (by omega) hroom
   ·exact insert_grow B g n c l h m c2 r i w cur cv hB h2 k2 h3 h4 h5 h6 k6 hl hr (by omega) (by omega) (by omega) hb
theorem run_append_in (w : World) (g n c : Nat) (cur : List Value) (hB : Bk w g cur) (hc : cur.length = c) (ad : Addr) (m xc : Nat) (cs : List Value) (hm : cs.length = m) (hsrc : ∀ j v, cs[j]? = some v → w.cell? (ad.add j) = some v) (h1 : ∀ v ∈ cs, v.oneCell' = true) (hroom : n + m ≤ c) :
  ∃ w', (∀ ty, (Builtin.append_ #[32, 32] ty #[.slice (some ⟨g, 0, none⟩) n c, .slice (some ad) m xc]).run Tryz.prog w = .ok (.slice (some ⟨g, 0, none⟩) (n + m) c) w') ∧ Bk w' g (splice cur n cs) ∧ w.grownBy w' (some g) := by
 obtain ⟨i0, hi, hz0, hz1, hz2⟩ := info_parts Tryz.info5
 have hb := bk_cells cs n w cur hB (by omega)
 refine ⟨_, fun ty => ?_, hb.1, hb.2⟩
 have hrun := run_append_room_cells (P := Tryz.prog) w 32 ty 5 i0 Tryz.underlying32 hi g 0 n c ad m xc cs (by rw [hz1]; omega) hsrc h1 hroom
  (fun j hj => by rw [hB.cell, hz1, List.getElem?_eq_getElem (by omega)]; rfl) (fun j hj => hB.frozen _)
 rw [hrun, hz1, Nat.zero_add, Nat.mul_one]
theorem Ce (cur cs : List Value) (i : Nat) (h : i + cs.length ≤ cur.length) : (splice cur i cs).take (i + cs.length) = cur.take i ++ cs := by
 unfold splice
 rw [← List.append_assoc, List.take_append_of_le_length (by rw [List.length_append, List.length_take]; omega), List.take_of_length_le (by rw [List.length_append, List.length_take]; omega)]
theorem Bi (cur cs : List Value) (i k : Nat) (h : k ≤ i) (hi : i ≤ cur.length) : (splice cur i cs).take k = cur.take k := by
 unfold splice
 rw [List.take_append_of_le_length (by rw [List.length_take]; omega), List.take_take, Nat.min_eq_left h]
theorem Bk.drewN {w : World} {g : Nat} {cur : List Value} (h : Bk w g cur) (q : Nat) : Bk (w.drewN q) g cur := h.keep (below_grown (Aa w q) none) (by simp)
theorem grown_drewN (w : World) (q : Nat) (row : Option Nat) : w.grownBy (w.drewN q) row := below_grown (Aa w q) row
theorem rep_place1 (cur R D : List Value) (i k t : Nat) (hk : i + R.length = k) (ht : k + D.length = t) (hc : t ≤ cur.length) : (splice (splice cur i R) k D).take t = cur.take i ++ (R ++ D) := by
 subst hk; subst ht
 have h1 : (splice cur i R).length = cur.length := length_splice _ _ _ (by omega)
 rw [Ce _ _ _ (by omega), Ce _ _ _ (by omega), List.append_assoc]
theorem rep_place2 (cur R D : List Value) (i k t : Nat) (hk : i + R.length = k) (ht : k + D.length = t) (hc : t ≤ cur.length) : (splice (splice cur k D) i R).take t = cur.take i ++ (R ++ D) := by
 subst hk; subst ht
 have h1 : (splice cur (i + R.length) D).length = cur.length := length_splice _ _ _ (by omega)
 have h2 : splice (splice cur (i + R.length) D) i R = cur.take i ++ (R ++ (D ++ cur.drop (i + R.length + D.length))) := by
  rw [show splice (splice cur (i + R.length) D) i R = (splice cur (i + R.length) D).take i ++ (R ++ (splice cur (i + R.length) D).drop (i + R.length)) from rfl, Bi _ _ _ _ (by omega) (by omega)]
  congr 2
  unfold splice
  rw [List.drop_append_of_le_length (by rw [List.length_take]; omega), List.drop_eq_nil_of_le (by rw [List.length_take]; omega), List.nil_append]
 rw [h2, ← List.append_assoc, ← List.append_assoc, List.take_append_of_le_length (by simp only [List.length_append, List.length_take]; omega), List.take_of_length_le (by simp only [List.length_append, List.length_take]; omega), List.append_assoc]
theorem replace_none (B C : Nat) (a : Option Addr) (n c : Nat) (l : List UInt8) (a2 : Option Addr) (m c2 : Nat) (r : List UInt8) (i : Nat) (w : World) (hO : Own w B a n c l) (hV : Own w C a2 m c2 r) (hC : ∀ x, a = some x → x.block < C) (hi : i ≤ n) (hb : n + m ≤ 140737488355328) (hB : B ≤ w.heap.size) :
  Calls Tryz.prog 239 #[.slice a n c, .int .i64 i, .int .i64 i, .slice a2 m c2] w fun e w' => Cb w B a (l.take i ++ (r ++ l.drop i)) e w' := by
 obtain ⟨a3, c3, hsl, -⟩ := hO.rd.slice_lh i i (Nat.le_refl _) hi
 have HI := Insert_sl B C a n c l a2 m c2 r i w hO hV hC hi hb hB
 clear hO hV
 go_enter Tryz.func239, Tryz.ntmps239
 go_wp2_with fail
 refine HI.mono ?_
 rintro e w1 ⟨a4, n4, c4, rfl, hO4, hG4, hW4⟩
 have HW4 : Hid (Went w a a4) := hW4
 have HO4 : Hid (Own w1 B a4 n4 c4 (l.take i ++ (r ++ l.drop i))) := hO4
 have HG4 : Hid (w.grownBy w1 (a.map (·.block))) := hG4
 clear hO4 hG4 hW4
 go_wp2
 go_ret
 exact ⟨_, _, _, rfl, HO4.out, HG4.out, HW4.out⟩
theorem replace_end (B : Nat) (g n c : Nat) (l : List UInt8) (h m c2 : Nat) (r : List UInt8) (i : Nat) (w : World) (cur : List Value) (hBg : B ≤ g) (hBw : B ≤ w.heap.size) (hg : Bk w g cur) (hV : Rd w (some ⟨h, 0, none⟩) m c2 r) (hn : n ≤ c) (hcm : c ≤ maxLen) (hcl : cur.length = c) (ht : cur.take n = cells l)
  (hl : l.length = n) (hi : i < n) (hm : n ≤ i + m) (hb : n + m ≤ 140737488355328) :
  Calls Tryz.prog 239 #[.slice (some ⟨g, 0, none⟩) n c, .int .i64 i, .int .i64 n, .slice (some ⟨h, 0, none⟩) m c2] w fun e w' => Cb w B (some ⟨g, 0, none⟩) (l.take i ++ (r ++ l.drop n)) e w' := by
 have hcm' := hcm
 unfold maxLen at hcm'
 obtain ⟨o1, -, s1⟩ := slice_at g n c i n (by omega) (by omega)
 have s2 := Bq g n c i (by omega)
 have HO : Hid (Own w B (some ⟨g, 0, none⟩) i c (l.take i)) := Own.of hBg hg (by omega) hcm hcl (by rw [← B9, ← ht, List.take_take, Nat.min_eq_left (by omega)])
 have HV : Hid (Rd w (some ⟨h, 0, none⟩) m c2 r) := hV
 have HM : Hid (i + m ≤ 140737488355328) := by show _ ≤ _; omega
 have HB : Hid (B ≤ w.heap.size) := hBw
 have HL : Hid (l.take i ++ (r ++ l.drop n) = l.take i ++ r) := by
  show _ = _
  rw [List.drop_eq_nil_of_le (by omega), List.append_nil]
 have hz2 : ¬ ((i : Int) = (n : Int)) := by omega
 have hz3 : ¬ ((i : Int) + (m : Int) < (n : Int)) := by omega
 clear hg hV ht hcl hBg hcm
 go_enter Tryz.func239, Tryz.ntmps239
 go_wp2_with (at_builtin; refine append_rowG rfl (.tmp 32) (.tmp 33) rfl B rfl HO.out rfl HV.out HM.out HB.out ?_; intro a4 n4 c4 w4 hn4 HO4 HG4 HW4; replace hn4 : ¬ ((n4 : Int) < (n : Int)) := (by omega))
 go_ret
 exact ⟨_, _, _, rfl, by rw [HL.out]; exact HO4.out, HG4.out, HW4.out⟩
theorem replace_less (B : Nat) (g n c : Nat) (l : List UInt8) (h m c2 : Nat) (r : List UInt8) (i : Nat) (w : World) (cur : List Value) (hBg : B ≤ g) (hg : Bk w g cur) (hV : Rd w (some ⟨h, 0, none⟩) m c2 r) (hn : n ≤ c) (hcm : c ≤ maxLen) (hcl : cur.length = c) (ht : cur.take n = cells l)
  (hl : l.length = n) (hi : i < n) (hm : i + m < n) :
  Calls Tryz.prog 239 #[.slice (some ⟨g, 0, none⟩) n c, .int .i64 i, .int .i64 n, .slice (some ⟨h, 0, none⟩) m c2] w fun e w' => Cb w B (some ⟨g, 0, none⟩) (l.take i ++ (r ++ l.drop n)) e w' := by
 have hcm' := hcm
 unfold maxLen at hcm'
 obtain ⟨k, hK⟩ : ∃ k, i + m = k := ⟨_, rfl⟩
 obtain ⟨o1, -, s1⟩ := slice_at g n c i n (by omega) (by omega)
 have s2 := Bq g n c i (by omega)
 obtain ⟨o3, ho3, s3⟩ := Az g n c k (by omega)
 have hO3 : o3 = k := ho3 (by omega)
 subst hO3
 have hrl := hV.len
 obtain ⟨Y, hY⟩ : ∃ Y, Y = cells r := ⟨_, rfl⟩
 have hYl : Y.length = m := by rw [hY, A7]; omega
 have hYs : ∀ j v, Y[j]? = some v → w.cell? ((⟨h, 0, none⟩ : Addr).add j) = some v := by
  intro j v hv
  have hj := (List.getElem?_eq_some_iff.1 hv).1
  obtain ⟨b, off, e, hc⟩ := hV.cell j (by omega)
  cases e
  rw [Af, hc]
  rw [hY, cells, List.getElem?_map, List.getElem?_eq_getElem (by omega)] at hv
  rw [List.getD_eq_getElem?_getD, List.getElem?_eq_getElem (by omega)]
  exact hv
 obtain ⟨w1, hr1, hB1, hG1⟩ := run_append_in w g i c cur hg hcl ⟨h, 0, none⟩ m c2 Y hYl hYs (by rw [hY]; exact Bd _) (by omega)
 rw [hK] at hr1
 have hsl : (splice cur i Y).length = c := by rw [length_splice _ _ _ (by omega), hcl]
 have HB1 : Hid (Bk w1 g (splice cur i Y)) := hB1
 have HG1 : Hid (w.grownBy w1 (some g)) := hG1
 have HF : Hid (o3 + (n - o3) ≤ (splice cur i Y).length) := by show _ ≤ _; rw [hsl]; omega
 have HF2 : Hid ((splice cur i Y).length = c) := hsl
 have HL : Hid ((splice cur i Y).take o3 = cells (l.take i ++ (r ++ l.drop n))) := by
  show _ = _
  have := Ce cur Y i (by omega)
  rw [show i + Y.length = o3 by omega] at this
  rw [this, List.drop_eq_nil_of_le (by omega), List.append_nil, Av, hY, ← B9, ← ht, List.take_take, Nat.min_eq_left (by omega)]
 have HBg : Hid (B ≤ g) := hBg
 have HM : Hid (c ≤ maxLen) := hcm
 have hz2 : ¬ ((i : Int) = (n : Int)) := by omega
 have hz3 : ((o3 : Int) < (n : Int)) := by omega
 have hoc : o3 ≤ c := by omega
 clear hY hYl hYs ht hcl hg hV hBg hB1 hG1 hsl hK hm ho3 hrl hcm
 go_enter Tryz.func239, Tryz.ntmps239
 go_wp2_with (first | (at_builtin; refine Lib.wpList_append_run _ rfl (.tmp 32) (.tmp 33) 32 32 rfl _ _ rfl rfl _ _ (hr1 _) ?_) | (refine clear_in rfl (.tmp 43) rfl rfl _ HB1.out HF.out ?_; intro w2 HB2 HG2))
 go_ret
 refine ⟨_, _, _, rfl, Own.of HBg.out HB2.out hoc HM.out ?_ ?_, As HG1.out HG2.out, .inl rfl⟩
 ·exact (length_splice _ _ _ (by rw [List.length_replicate]; exact HF.out)).trans HF2.out
 ·exact (Bi _ _ _ _ (Nat.le_refl _) (Nat.le_trans hoc (Nat.le_of_eq HF2.out.symm))).trans HL.out
theorem replace_wide (B : Nat) (g n c : Nat) (l : List UInt8) (h m c2 : Nat) (r : List UInt8) (i j : Nat) (w : World) (cur cv : List Value) (hBg : B ≤ g) (hg : Bk w g cur) (hh : Bk w h cv) (hne : h ≠ g) (hn : n ≤ c) (hcm : c ≤ maxLen) (hcl : cur.length = c) (ht : cur.take n = cells l) (htv : cv.take m = cells r) (hcv : cv.length ≠ 0)
  (hl : l.length = n) (hr : r.length = m) (hi : i < j) (hj : j < n) (hb : n + m ≤ 140737488355328) (hx : j < i + m) (hroom : i + m + (n - j) ≤ c) :
  Calls Tryz.prog 239 #[.slice (some ⟨g, 0, none⟩) n c, .int .i64 i, .int .i64 j, .slice (some ⟨h, 0, none⟩) m c2] w fun e w' => Cb w B (some ⟨g, 0, none⟩) (l.take i ++ (r ++ l.drop j)) e w' := by
 have hcm' := hcm
 unfold maxLen at hcm'
 obtain ⟨k, hK⟩ : ∃ k, i + m = k := ⟨_, rfl⟩
 obtain ⟨d, hD⟩ : ∃ d, n - j = d := ⟨_, rfl⟩
 obtain ⟨t, hT⟩ : ∃ t, k + d = t := ⟨_, rfl⟩
 have hKi : (i : Int) + (m : Int) = k := by omega
 have hTi : (k : Int) + (d : Int) = t := by omega
 obtain ⟨o1, -, s1⟩ := slice_at g n c i j (by omega) (by omega)
 have s2 := Bq g n c i (by omega)
 obtain ⟨o3, ho3, s3⟩ := Az g n c j (by omega)
 have hO3 : o3 = j := ho3 (by omega)
 subst hO3
 rw [hD] at s3
 obtain ⟨X, hX⟩ : ∃ X, X = cells (l.drop o3) := ⟨_, rfl⟩
 obtain ⟨Y, hY⟩ : ∃ Y, Y = cells r := ⟨_, rfl⟩
 have hXl : X.length = d := by rw [hX, A7, List.length_drop]; omega
 have hYl : Y.length = m := by rw [hY, A7]; omega
 have HX4 : Hid (∀ v ∈ X, v.oneCell' = true) := by show ∀ _, _; rw [hX]; exact Bd _
 have HY4 : Hid (∀ v ∈ Y, v.oneCell' = true) := by show ∀ _, _; rw [hY]; exact Bd _
 have HYs : Hid (∀ w1 : World, Bk w1 h cv → ∀ j v, Y[j]? = some v → w1.cell? ((⟨h, 0, none⟩ : Addr).add j) = some v) := by
  show ∀ _, _
  intro w1 h1
  rw [hY]; exact cell_all h1 htv (by omega)
 have HXl : Hid (X.length = d) := hXl
 have HYl : Hid (Y.length = m) := hYl
 have HH : Hid (Bk w h cv) := hh
 have HN : Hid (some h ≠ some g) := fun e => hne (Option.some.inj e)
 have HBg : Hid (B ≤ g) := hBg
 have HCM : Hid (c ≤ maxLen) := hcm
 have hz2 : ¬ ((i : Int) = (o3 : Int)) := by omega
 have hz3 : ¬ ((o3 : Int) = (n : Int)) := by omega
 have hwk : IntKind.i64.wrap (k : Int) = k := by rw [IntKind.wrap_i64]; omega
 have hwt : IntKind.i64.wrap (t : Int) = t := by rw [IntKind.wrap_i64]; omega
 have hA : cur.take i = cells (l.take i) := by rw [← B9, ← ht, List.take_take, Nat.min_eq_left (by omega)]
 have s4 := Bq g n c t (by omega)
 obtain ⟨o5, ho5, s5⟩ := Az g t c k (by omega)
 obtain ⟨o6, ho6, s6⟩ := Az g t c i (by omega)
 have hO6 : o6 = i := ho6 (by omega)
 subst hO6
 have htk : t - k = d := by omega
 rw [htk] at s5
 have HOV : Hid (∀ W : World, Bk W g cur → Bk W h cv → ∀ lb cb, (callFunc 270 #[.slice (some ⟨g, o5, none⟩) lb cb, .slice (some ⟨h, 0, none⟩) m c2]).run Tryz.prog W = .ok (.value (.bool false)) W) := fun W h1 h2 lb cb => apart_any h1 h2 (Ne.symm hne) hcv o5 0 lb cb m c2
 have HG : Hid (Bk w g cur) := hg
 have HX1 : Hid (X.length = Nat.min d d) := by show X.length = min _ _; rw [hXl, Nat.min_self]
 have HX2 : Hid (∀ W : World, Bk W g cur → CpOk W (some ⟨g, o5, none⟩) (some ⟨g, o3, none⟩) g k X) := fun W h1 h0 =>
  ⟨by rw [ho5 (by omega)], _, rfl, by rw [hX]; exact cell_of h1 ht o3 (by omega)⟩
 have HX3 : Hid (k + X.length ≤ cur.length) := by show _ ≤ _; omega
 have HY1 : Hid (Y.length = Nat.min m (t - o6)) := by show Y.length = min _ _; rw [hYl, Nat.min_def]; split <;> omega
 have HY3 : Hid (o6 + Y.length ≤ (splice cur k X).length) := by show _ ≤ _; rw [length_splice _ _ _ HX3.out]; omega
 have HL : Hid ((splice (splice cur k X) o6 Y).take t = cells (l.take o6 ++ (r ++ l.drop o3))) := by
  show _ = _
  rw [rep_place2 cur Y X o6 k t (by omega) (by omega) (by omega), hA, hX, hY, Av, Av]
 have HC : Hid ((splice (splice cur k X) o6 Y).length = c) := by show _ = _; rw [length_splice _ _ _ HY3.out, length_splice _ _ _ HX3.out, hcl]
 have hz4 : ¬ ((k : Int) ≤ (o3 : Int)) := by omega
 have hz5 : ¬ ((c : Int) < (t : Int)) := by omega
 have htc : t ≤ c := by omega
 have hkt : k ≤ t := by omega
 have hit : o6 ≤ t := by omega
 clear hX hY hXl hYl ht htv hcl hg hh ho3 ho5 ho6 hBg hne hD hK hT hcm hA htk hcv
 go_enter Tryz.func239, Tryz.ntmps239
 go_wp2_with fail
 go_quiet (fail)
 have HW1 : Hid (w.grownBy (w.drewN nq) (some g)) := grown_drewN w nq _
 have HW2 : Hid (Bk (w.drewN nq) g cur) := HG.out.drewN nq
 have HW3 : Hid (Bk (w.drewN nq) h cv) := HH.out.drewN nq
 generalize w.drewN nq = W at *
 have hov := HOV.out W HW2.out HW3.out
 have HWd : Hid (Bk W.drew g cur) := HW2.out
 have HX2d := HX2.out W.drew HWd.out
 have HX2' : Hid (CpOk W.drew (some ⟨g, o5, none⟩) (some ⟨g, o3, none⟩) g k X) := HX2d
 clear HX2d
 go_wp2_with (simp only [hov])
 go_region_law (refine Cn rfl (.tmp 126) (.tmp 129) rfl (by simp [Act.eval, Act.put] <;> rfl) (by simp [Act.eval, Act.put] <;> rfl) g k cur HWd.out X HX1.out HX2'.out HX3.out HX4.out ?_; intro w1 HB1 HG1)
 have HY2 : Hid (CpOk w1 (some ⟨g, o6, none⟩) (some ⟨h, 0, none⟩) g o6 Y) := fun _ => ⟨rfl, _, rfl, HYs.out w1 (HW3.out.keep (Bn HG1.out) HN.out)⟩
 obtain ⟨w2, hr2, hB2, hG2⟩ := Ck w1 _ _ (t - o6) (c - o6) m c2 g o6 _ HB1.out Y HY1.out HY2.out HY3.out HY4.out
 have HB2 : Hid (Bk w2 g (splice (splice cur k X) o6 Y)) := hB2
 have HG2 : Hid (w1.grownBy w2 (some g)) := hG2
 clear hB2 hG2
 go_wp2_with (simp only [hr2])
 go_ret
 exact ⟨_, _, _, rfl, Own.of HBg.out HB2.out htc HCM.out HC.out HL.out, As (As HW1.out (Bn HG1.out)) HG2.out, .inl rfl⟩
end Go.Proofs.YtmjeljldmmkcpaaGreat
