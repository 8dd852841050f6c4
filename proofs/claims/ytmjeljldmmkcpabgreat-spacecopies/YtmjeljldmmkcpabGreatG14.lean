/- Texts that the others stand on. -/
import Derived.Test.YtmjeljldmmkcpabGreatG13
import Derived.Test.YtmjeljldmmkcpabGreatG12
namespace Go.Proofs.YtmjeljldmmkcpabGreat
open Go.RowKit Go.PlainAid
set_option maxRecDepth 100000 in
set_option maxHeartbeats 4000000 in
theorem replace_fit0 (B : Nat) (g n c : Nat) (l : List UInt8) (m c2 : Nat) (r : List UInt8) (i j : Nat) (w : World) (cur : List Value) (hBg : B ≤ g) (hg : Bk w g cur) (hn : n ≤ c) (hcm : c ≤ maxLen) (hcl : cur.length = c) (ht : cur.take n = cells l)
    (hl : l.length = n) (hr : r.length = m) (hm0 : m = 0) (hi : i < j) (hj : j < n) (hb : n + m ≤ 140737488355328) (hx : i + m ≤ j) :
    Calls Tryz.prog 125 #[.slice (some ⟨g, 0, none⟩) n c, .int .i64 i, .int .i64 j, .slice none m c2] w fun e w' => Turned w B (some ⟨g, 0, none⟩) (l.take i ++ (r ++ l.drop j)) e w' := by
  have hcm' := hcm
  unfold maxLen at hcm'
  obtain ⟨k, hK⟩ : ∃ k, i + m = k := ⟨_, rfl⟩
  obtain ⟨d, hD⟩ : ∃ d, n - j = d := ⟨_, rfl⟩
  obtain ⟨t, hT⟩ : ∃ t, k + d = t := ⟨_, rfl⟩
  have hKi : (i : Int) + (m : Int) = k := by omega
  have hTi : (k : Int) + (d : Int) = t := by omega
  obtain ⟨o1, -, s1⟩ := slice_at g n c i j (by omega) (by omega)
  have s2 := slice_hi g n c i (by omega)
  obtain ⟨o3, ho3, s3⟩ := slice_lo g n c j (by omega)
  have hO3 : o3 = j := ho3 (by omega)
  subst hO3
  rw [hD] at s3
  obtain ⟨X, hX⟩ : ∃ X, X = cells (l.drop o3) := ⟨_, rfl⟩
  obtain ⟨Y, hY⟩ : ∃ Y, Y = cells r := ⟨_, rfl⟩
  have hXl : X.length = d := by rw [hX, cells_len, List.length_drop]; omega
  have hYl : Y.length = m := by rw [hY, cells_len]; omega
  have HX4 : Hid (∀ v ∈ X, v.oneCell' = true) := by show ∀ _, _; rw [hX]; exact cells_one _
  have HY4 : Hid (∀ v ∈ Y, v.oneCell' = true) := by show ∀ _, _; rw [hY]; exact cells_one _
  have HM0 : Hid (m = 0) := hm0
  have HXl : Hid (X.length = d) := hXl
  have HYl : Hid (Y.length = m) := hYl
  have HBg : Hid (B ≤ g) := hBg
  have HCM : Hid (c ≤ maxLen) := hcm
  have hz2 : ¬ ((i : Int) = (o3 : Int)) := by omega
  have hz3 : ¬ ((o3 : Int) = (n : Int)) := by omega
  have hwk : IntKind.i64.wrap (k : Int) = k := by rw [IntKind.wrap_i64]; omega
  have hwt : IntKind.i64.wrap (t : Int) = t := by rw [IntKind.wrap_i64]; omega
  have hA : cur.take i = cells (l.take i) := by rw [← cells_take, ← ht, List.take_take, Nat.min_eq_left (by omega)]
  have s4 := slice_hi g n c t (by omega)
  obtain ⟨o5, ho5, s5⟩ := slice_lo g t c k (by omega)
  obtain ⟨o6, ho6, s6⟩ := slice_lo g t c i (by omega)
  obtain ⟨o7, ho7, s7⟩ := slice_lo g n c t (by omega)
  have hO6 : o6 = i := ho6 (by omega)
  subst hO6
  have htk : t - k = d := by omega
  rw [htk] at s5
  have HG : Hid (Bk w g cur) := hg
  have HY1 : Hid (Y.length = Nat.min m (t - o6)) := by show Y.length = min _ _; rw [hYl, Nat.min_def]; split <;> omega
  have HY3 : Hid (o6 + Y.length ≤ cur.length) := by show _ ≤ _; omega
  have hsp : (splice cur o6 Y).length = c := by rw [length_splice _ _ _ HY3.out, hcl]
  have HX1 : Hid (X.length = Nat.min d d) := by show X.length = min _ _; rw [hXl, Nat.min_self]
  have HX2 : Hid (∀ W : World, Bk W g (splice cur o6 Y) → CpOk W (some ⟨g, o5, none⟩) (some ⟨g, o3, none⟩) g k X) := fun W h1 h0 =>
    ⟨by rw [ho5 (by omega)], _, rfl, fun q v hv => by
      have hq := (List.getElem?_eq_some_iff.1 hv).1
      rw [add_flat, h1.cell, splice_get _ _ _ HY3.out, if_neg (by omega), if_neg (by omega)]
      rw [hX] at hv
      have := cell_of hg ht o3 (by omega) q v hv
      rw [add_flat, hg.cell] at this
      exact this⟩
  have HX3 : Hid (k + X.length ≤ (splice cur o6 Y).length) := by show _ ≤ _; omega
  have hsp2 : (splice (splice cur o6 Y) k X).length = c := by rw [length_splice _ _ _ HX3.out, hsp]
  have HL : Hid ((splice (splice cur o6 Y) k X).take t = cells (l.take o6 ++ (r ++ l.drop o3))) := by
    show _ = _
    rw [rep_place1 cur Y X o6 k t (by omega) (by omega) (by omega), hA, hX, hY, cells_append, cells_append]
  have HC : Hid ((splice (splice cur o6 Y) k X).length = c) := hsp2
  have HO7 : Hid (t < n → o7 = t) := by show _ → _; intro; exact ho7 (by omega)
  have hz4 : ((k : Int) ≤ (o3 : Int)) := by omega
  have hz5 : ¬ ((c : Int) < (t : Int)) := by omega
  have htc : t ≤ c := by omega
  have htn : t ≤ n := by omega
  have hkt : k ≤ t := by omega
  have hit : o6 ≤ t := by omega
  clear hX hY hXl hYl ht hcl hg ho3 ho5 ho6 ho7 hBg hm0 hD hK hT hcm hA htk hsp hsp2
  go_enter Tryz.func125, Tryz.ntmps125
  go_wp2_with fail
  go_quiet (fail)
  have HW1 : Hid (w.grownBy (w.drewN nq) (some g)) := grown_drewN w nq _
  have HW2 : Hid (Bk (w.drewN nq) g cur) := HG.out.drewN nq
  generalize w.drewN nq = W at *
  have HY2 : Hid (CpOk W (some ⟨g, o6, none⟩) none g o6 Y) := fun h0 => absurd h0 (by have := HYl.out; have := HM0.out; omega)
  obtain ⟨w1, hr1, hB1, hG1⟩ := run_copy_in W _ _ (t - o6) (c - o6) m c2 g o6 _ HW2.out Y HY1.out HY2.out HY3.out HY4.out
  have HB1 : Hid (Bk w1 g (splice cur o6 Y)) := hB1
  have HG1 : Hid (W.grownBy w1 (some g)) := hG1
  clear hB1 hG1
  go_wp2_with (simp only [hr1])
  have HWd : Hid (Bk w1.drew g (splice cur o6 Y)) := HB1.out
  have HX2d := HX2.out w1.drew HWd.out
  have HX2' : Hid (CpOk w1.drew (some ⟨g, o5, none⟩) (some ⟨g, o3, none⟩) g k X) := HX2d
  clear HX2d
  go_region_law (refine step_copy_in rfl (.tmp 103) (.tmp 106) rfl (by simp [Act.eval, Act.put] <;> rfl) (by simp [Act.eval, Act.put] <;> rfl) g k _ HWd.out X HX1.out HX2'.out HX3.out HX4.out ?_; intro w2 HB2 HG2)
  by_cases h7 : t < n
  · have h8 : o7 = t := HO7.out h7
    subst h8
    have HF : Hid (o7 + (n - o7) ≤ (splice (splice cur o6 Y) k X).length) := by show _ ≤ _; rw [HC.out]; omega
    go_wp2_with (refine clear_in rfl (.tmp 110) rfl rfl _ HB2.out HF.out ?_; intro w3 HB3 HG3)
    go_ret
    refine ⟨_, _, _, rfl, Own.of HBg.out HB3.out htc HCM.out ?_ ?_, grown_trans (grown_trans (grown_trans HW1.out HG1.out) (drew_grown HG2.out)) HG3.out, .inl rfl⟩
    · exact (length_splice _ _ _ (by rw [List.length_replicate]; exact HF.out)).trans HC.out
    · exact (take_splice_low _ _ _ _ (Nat.le_refl _) (Nat.le_trans htc (Nat.le_of_eq HC.out.symm))).trans HL.out
  · have h8 : t = n := by omega
    subst h8
    have hrc : ∀ o c', ∀ ty, (Builtin.clear_ #[157] ty #[.slice (some ⟨g, o, none⟩) 0 c']).run Tryz.prog w2 = .ok (.tuple #[]) w2 := by
      intro o c' ty
      simp [Builtin.clear_, run_underlying Tryz.underlying157]
    rw [Nat.sub_self] at s7
    go_wp2_with (simp only [hrc])
    go_ret
    exact ⟨_, _, _, rfl, Own.of HBg.out HB2.out htc HCM.out HC.out HL.out, grown_trans (grown_trans HW1.out HG1.out) (drew_grown HG2.out), .inl rfl⟩
set_option maxRecDepth 100000 in
set_option maxHeartbeats 4000000 in
/-- To the end, by nothing. -/
theorem replace_end0 (B : Nat) (g n c : Nat) (l : List UInt8) (i : Nat) (w : World) (cur : List Value) (hBg : B ≤ g) (hg : Bk w g cur) (hn : n ≤ c) (hcm : c ≤ maxLen) (hcl : cur.length = c) (ht : cur.take n = cells l)
    (hl : l.length = n) (hi : i < n) :
    Calls Tryz.prog 125 #[.slice (some ⟨g, 0, none⟩) n c, .int .i64 i, .int .i64 n, .slice none 0 0] w fun e w' => Turned w B (some ⟨g, 0, none⟩) (l.take i ++ l.drop n) e w' := by
  have hcm' := hcm
  unfold maxLen at hcm'
  obtain ⟨o1, -, s1⟩ := slice_at g n c i n (by omega) (by omega)
  have s2 := slice_hi g n c i (by omega)
  obtain ⟨o3, ho3, s3⟩ := slice_lo g n c i (by omega)
  have hO3 : o3 = i := ho3 (by omega)
  subst hO3
  have hA : cur.take o3 = cells (l.take o3) := by rw [← cells_take, ← ht, List.take_take, Nat.min_eq_left (by omega)]
  have HO : Own w B (some ⟨g, 0, none⟩) o3 c (l.take o3) := Own.of hBg hg (by omega) hcm hcl hA
  obtain ⟨i0, hi0, hz0, hz1, hz2⟩ := info_parts Tryz.info5
  have hr1 := fun ty => run_append_owned_none (P := Tryz.prog) w B 157 ty 5 i0 1 Tryz.underlying157 hi0 (.slice (some ⟨g, 0, none⟩) o3 c) o3 (cells (l.take o3)) HO
  have HB1 : Hid (Bk w g cur) := hg
  have HF : Hid (o3 + (n - o3) ≤ cur.length) := by show _ ≤ _; rw [hcl]; omega
  have HF2 : Hid (cur.length = c) := hcl
  have HL : Hid (cur.take o3 = cells (l.take o3 ++ l.drop n)) := by
    show _ = _
    rw [List.drop_eq_nil_of_le (by omega), List.append_nil]; exact hA
  have HBg : Hid (B ≤ g) := hBg
  have HM : Hid (c ≤ maxLen) := hcm
  have hz2 : ¬ ((o3 : Int) = (n : Int)) := by omega
  have hz3 : ((o3 : Int) < (n : Int)) := by omega
  have hoc : o3 ≤ c := by omega
  clear ht hcl hg hBg ho3 hcm hA HO hi0 hz0 hz1
  go_enter Tryz.func125, Tryz.ntmps125
  go_wp2_with (first | (at_builtin; refine Lib.wpList_append_run _ rfl (.tmp 32) (.tmp 33) 157 157 rfl _ _ rfl rfl _ _ (hr1 _) ?_) | (refine clear_in rfl (.tmp 43) rfl rfl _ HB1.out HF.out ?_; intro w2 HB2 HG2))
  go_ret
  refine ⟨_, _, _, rfl, Own.of HBg.out HB2.out hoc HM.out ?_ ?_, HG2.out, .inl rfl⟩
  · exact (length_splice _ _ _ (by rw [List.length_replicate]; exact HF.out)).trans HF2.out
  · exact (take_splice_low _ _ _ _ (Nat.le_refl _) (Nat.le_trans hoc (Nat.le_of_eq HF2.out.symm))).trans HL.out
/-- slices.Replace. -/
theorem Replace_sl (B C : Nat) (a : Option Addr) (n c : Nat) (l : List UInt8) (a2 : Option Addr) (m c2 : Nat) (r : List UInt8) (i j : Nat) (w : World) (hO : Own w B a n c l) (hV : Own w C a2 m c2 r) (hC : ∀ x, a = some x → x.block < C) (hi : i ≤ j) (hj : j ≤ n) (hm : 0 < m ∨ a2 = none) (hb : n + m ≤ 140737488355328) (hB : B ≤ w.heap.size) :
    Calls Tryz.prog 125 #[.slice a n c, .int .i64 i, .int .i64 j, .slice a2 m c2] w fun e w' => Turned w B a (l.take i ++ (r ++ l.drop j)) e w' := by
  have hl := hO.len
  have hr := hV.len
  by_cases hij : i = j
  · subst hij
    exact replace_none B C a n c l a2 m c2 r i w hO hV hC hj hb hB
  · obtain ⟨g, cur, rfl, h1, h2, h3, h4, h5, h6⟩ := hO.parts (by omega)
    rcases Nat.eq_zero_or_pos m with hm0 | hm1
    · have ha : a2 = none := hm.resolve_left (by omega)
      subst ha
      subst hm0
      have hr0 : r = [] := List.length_eq_zero_iff.1 hr
      subst hr0
      have hc2 : c2 = 0 := hV.rd.nul rfl
      subst hc2
      by_cases hjn : j = n
      · subst hjn
        exact replace_end0 B g j c l i w cur h1 h2 h3 h4 h5 h6 hl (by omega)
      · exact replace_fit0 B g n c l 0 0 [] i j w cur h1 h2 h3 h4 h5 h6 hl rfl rfl (by omega) (by omega) (by omega) (by omega)
    have hrd := hV.rd
    obtain ⟨h, cv, rfl, k1, k2, k3, k4, k5, k6⟩ := hV.parts (by omega)
    have hne : h ≠ g := by have := hC _ rfl; simp at this; omega
    by_cases hjn : j = n
    · subst hjn
      by_cases hx : i + m < j
      · exact replace_less B g j c l h m c2 r i w cur h1 h2 hrd h3 h4 h5 h6 hl (by omega) hx
      · exact replace_end B g j c l h m c2 r i w cur h1 hB h2 hrd h3 h4 h5 h6 hl (by omega) (by omega) hb
    · by_cases hroom : i + m + (n - j) ≤ c
      · by_cases hx : i + m ≤ j
        · exact replace_fit B g n c l h m c2 r i j w cur cv h1 h2 k2 hne h3 h4 h5 h6 k6 hl hr (by omega) (by omega) hb hx
        · exact replace_wide B g n c l h m c2 r i j w cur cv h1 h2 k2 hne h3 h4 h5 h6 k6 (by omega) hl hr (by omega) (by omega) hb (by omega) hroom
      · exact replace_new B g n c l h m c2 r i j w cur cv hB h2 k2 h3 h4 h5 h6 k6 hl hr (by omega) (by omega) hb (by omega)
end Go.Proofs.YtmjeljldmmkcpabGreat
namespace Go.Proofs.YtmjeljldmmkcpabGreat
/-- Where the i-th text begins. -/
def off (ls : List ByteArray) (i : Nat) : Nat := (pack (ls.take i)).length
/-- No text is too long. -/
def Fit (ls : List ByteArray) : Prop := ∀ s ∈ ls, s.size ≤ 4096
def txt (ls : List ByteArray) (i : Nat) : ByteArray := ls.getD i ByteArray.empty
theorem off_zero (ls : List ByteArray) : off ls 0 = 0 := rfl
theorem off_all (ls : List ByteArray) {i : Nat} (h : ls.length ≤ i) : off ls i = (pack ls).length := by rw [off, List.take_of_length_le h]
theorem off_succ (ls : List ByteArray) {i : Nat} (h : i < ls.length) : off ls (i + 1) = off ls i + (enc (lst (txt ls i))).length := by
  rw [off, pack_take ls i h, List.length_append]; rfl
theorem off_step (ls : List ByteArray) {i : Nat} (h : i < ls.length) : off ls i + 2 ≤ off ls (i + 1) := by
  have := (enc_len (lst (txt ls i))).1
  rw [off_succ ls h]; omega
theorem off_le (ls : List ByteArray) (i : Nat) : off ls i ≤ (pack ls).length := by
  rw [off]
  conv => rhs; rw [← List.take_append_drop i ls, pack_append, List.length_append]
  omega
theorem off_lt (ls : List ByteArray) {i : Nat} (h : i < ls.length) : off ls i < (pack ls).length := by
  have := off_step ls h
  have := off_le ls (i + 1)
  omega
theorem len_pack (ls : List ByteArray) : 2 * ls.length ≤ (pack ls).length := by
  induction ls with
  | nil => simp [pack]
  | cons s r ih =>
    have := (enc_len (lst s)).1
    rw [pack, List.length_append, List.length_cons]; omega
theorem Fit.at {ls : List ByteArray} (h : Fit ls) {i : Nat} (hi : i < ls.length) : (txt ls i).size ≤ 4096 := short_get h i hi
theorem decAt_off {ls : List ByteArray} (hf : Fit ls) {i : Nat} (h : i < ls.length) : decAt (pack ls) (off ls i : Nat) = some (lst (txt ls i), off ls (i + 1)) := by
  have h1 := pack_split ls i h
  rw [h1, off, decAt_enc _ _ _ (by rw [len_lst]; exact hf.at h), off_succ ls h]; rfl
theorem bkAt_off {ls : List ByteArray} (hf : Fit ls) {i : Nat} (h : i < ls.length) : bkAt (pack ls) (off ls (i + 1) : Nat) = some ((off ls i : Nat) : Int) := by
  have h1 := pack_split ls i h
  have h2 := bkAt_enc (pack (ls.take i)) (lst (txt ls i)) (pack (ls.drop (i + 1))) (by rw [len_lst]; exact hf.at h)
  rw [off_succ ls h, h1]
  exact h2
theorem take_off (ls : List ByteArray) (i : Nat) : (pack ls).take (off ls i) = pack (ls.take i) := by
  have h : pack ls = pack (ls.take i) ++ pack (ls.drop i) := by rw [← pack_append, List.take_append_drop]
  rw [h, off, List.take_left]
theorem drop_off (ls : List ByteArray) (i : Nat) : (pack ls).drop (off ls i) = pack (ls.drop i) := by
  have h : pack ls = pack (ls.take i) ++ pack (ls.drop i) := by rw [← pack_append, List.take_append_drop]
  rw [h, off, List.drop_left]
/-- The texts that a row of bytes has, if it is a pack's. -/
def split : Nat → List UInt8 → Option (List ByteArray)
  | _, [] => some []
  | 0, _ :: _ => none
  | f + 1, x :: r => match dec1 (x :: r) with
    | none => none
    | some (s, k) => (split f ((x :: r).drop k)).map (bs s :: ·)
end Go.Proofs.YtmjeljldmmkcpabGreat
namespace Go.Proofs.YtmjeljldmmkcpabGreat
open Go.RowKit Go.PlainAid
/-- A world that has more than w had, at its end alone. -/
structure Ext (w : World) where
  wx : World
  ok : Below w.heap.size w wx
theorem wp_region_ext {P : Program} {id : Nat} {Q : Exit → Act → World → Prop} {a : Act} {w : World} {l : List Oper} (hm : P.follows .mixedOrders = true) (hB : Region.lexB .any l.toArray = true)
    (h : wpQuiet P l.toArray (fun w' => ∃ x : Ext w, w' = x.wx) (fun a' => ∀ w', (∃ x : Ext w, w' = x.wx) → Q .normal a' w') l a) : (Code.region id l.toArray true).wp P Q a w :=
  wp_region_quiet (C := fun w' => ∃ x : Ext w, w' = x.wx) hm hB ⟨⟨_, (Below.refl _ _).drew⟩, rfl⟩ (by simpa using h)
theorem Calls.ext_of {P : Program} {f : FuncId} {args : Array Value} {w : World} {x : Ext w} {v : Value}
    (h : Calls P f args x.wx fun e w' => Below x.wx.heap.size x.wx w' ∧ e = .returned v) : Calls P f args x.wx fun e w'' => e = .returned v ∧ ∃ y : Ext w, w'' = y.wx :=
  h.mono fun _ w' ⟨hb, he⟩ => ⟨he, ⟨w', x.ok.trans (hb.mono x.ok.size)⟩, rfl⟩
/-- Block p is a pack that has the texts ls. -/
structure Pk (w : World) (B p : Nat) (a : Option Addr) (n c : Nat) (ls : List ByteArray) : Prop where
  blk : w.heap[p]? = some (.cells #[.slice a n c, .int .i64 (ls.length : Nat)] 159 (0, 0))
  low : B ≤ p
  own : Own w B a n c (pack ls)
theorem Pk.cell {w : World} {B p : Nat} {a : Option Addr} {n c : Nat} {ls : List ByteArray} (h : Pk w B p a n c ls) : w.cell? ⟨p, 0, none⟩ = some (.slice a n c) := by simp [World.cell?, h.blk]
theorem Pk.cnt {w : World} {B p : Nat} {a : Option Addr} {n c : Nat} {ls : List ByteArray} (h : Pk w B p a n c ls) : w.cell? ⟨p, 1, none⟩ = some (.int .i64 (ls.length : Nat)) := by simp [World.cell?, h.blk]
theorem Pk.frozen {w : World} {B p : Nat} {a : Option Addr} {n c : Nat} {ls : List ByteArray} (h : Pk w B p a n c ls) : w.frozen? ⟨p, 0, none⟩ = false := by simp [World.frozen?, h.blk]
theorem Pk.lt {w : World} {B p : Nat} {a : Option Addr} {n c : Nat} {ls : List ByteArray} (h : Pk w B p a n c ls) : p < w.heap.size := (Array.getElem?_eq_some_iff.1 h.blk).1
theorem Pk.keep {w wn : World} {B p : Nat} {a : Option Addr} {n c : Nat} {ls : List ByteArray} (h : Pk w B p a n c ls) (hb : Below w.heap.size w wn) : Pk wn B p a n c ls :=
  ⟨by rw [hb.block p h.lt]; exact h.blk, h.low, h.own.keep hb⟩
theorem Pk.low' {w : World} {B C p : Nat} {a : Option Addr} {n c : Nat} {ls : List ByteArray} (h : Pk w B p a n c ls) (hC : C ≤ B) : Pk w C p a n c ls := ⟨h.blk, Nat.le_trans hC h.low, h.own.low hC⟩
theorem Pk.len {w : World} {B p : Nat} {a : Option Addr} {n c : Nat} {ls : List ByteArray} (h : Pk w B p a n c ls) : (pack ls).length = n := h.own.len
theorem Pk.max {w : World} {B p : Nat} {a : Option Addr} {n c : Nat} {ls : List ByteArray} (h : Pk w B p a n c ls) : n ≤ 9223372036854775807 := Nat.le_trans h.own.rd.fit h.own.rd.max
theorem Pk.many {w : World} {B p : Nat} {a : Option Addr} {n c : Nat} {ls : List ByteArray} (h : Pk w B p a n c ls) : 2 * ls.length ≤ n := by have := len_pack ls; have := h.len; omega
abbrev ptr (p : Nat) : Value := .pointer (some ⟨p, 0, none⟩)
/-- Over how many texts one comes from the i-th on. -/
def gone (ls : List ByteArray) (i : Nat) (n : Int) : Nat := min n.toNat (ls.length - i)
set_option maxRecDepth 100000 in
set_option maxHeartbeats 4000000 in
theorem skip_any (B p : Nat) (a : Option Addr) (n c : Nat) (ls : List ByteArray) (i : Nat) (N : Int) (w : World) (hP : Pk w B p a n c ls) (hf : Fit ls) (hi : i ≤ ls.length) (hN : -9223372036854775808 ≤ N) (hN2 : N ≤ 9223372036854775807) :
    Calls Tryz.prog 175 #[ptr p, .int .i64 (off ls i : Nat), .int .i64 N] w fun e w' => Below w.heap.size w w' ∧ e = .returned (.int .i64 (off ls (i + gone ls i N) : Nat)) := by
  obtain ⟨K, hK⟩ : ∃ K, gone ls i N = K := ⟨_, rfl⟩
  rw [hK]
  have hn := hP.max
  have HL : Hid ((pack ls).length = n) := hP.own.len
  have HK : Hid (min N.toNat (ls.length - i) = K) := hK
  have HP : Hid (Pk w B p a n c ls) := hP
  have HF : Hid (Fit ls) := hf
  have HI : Hid (i ≤ ls.length) := hi
  obtain ⟨x0, hx0⟩ : ∃ x0, off ls i = x0 := ⟨_, rfl⟩
  have HX0 : Hid (off ls (i + 0) = x0) := hx0
  rw [hx0]
  clear hP hf hK hx0
  go_enter Tryz.func175, Tryz.ntmps175
  go_wp2
  go_loopg [1, 2] K (fun g av nv wr => ∃ k x : Nat, ∃ z : Int, k + g = K ∧ av = .int .i64 x ∧ nv = .int .i64 z ∧ Hid (z = N - k) ∧ Hid (off ls (i + k) = x) ∧ Hid (Pk wr B p a n c ls) ∧ Hid (Below w.heap.size w wr))
  case atStart => exact ⟨0, x0, N, by omega, rfl, rfl, (by show _ = _; omega), HX0, HP, Below.refl _ _⟩
  case round =>
    obtain ⟨k, x, z, hk, rfl, rfl, HZ, HX, HPr, HB⟩ := hrel
    have hc1 := HPr.out.cell
    by_cases hkK : k < K
    · have h1 : (0 : Int) < z := by have := HK.out; have := HZ.out; omega
      have hz2 : z ≤ 9223372036854775807 := by have := HZ.out; omega
      have hil : i + k < ls.length := by have := HK.out; omega
      have h2 : (x : Int) < n := by have := off_lt ls hil; have := HL.out; have := HX.out; omega
      have HD : Hid (decAt (pack ls) (x : Nat) = some (lst (txt ls (i + k)), off ls (i + k + 1))) := by show _ = _; rw [← HX.out]; exact decAt_off HF.out hil
      have HC := Decode_any a n c (pack ls) x wr HPr.out.own.rd (by omega)
      rw [HD.out, cR_some] at HC
      obtain ⟨y, hy⟩ : ∃ y, off ls (i + k + 1) = y := ⟨_, rfl⟩
      rw [hy] at HC
      have HY : Hid (off ls (i + (k + 1)) = y) := hy
      clear hy HD
      go_wp2_with fail
      refine HC.mono ?_
      rintro e w1 ⟨hb, rfl⟩
      have HP1 : Hid (Pk w1 B p a n c ls) := HPr.out.keep hb
      have HB1 := step_below HB hb
      clear hb
      go_wp2
      go_roundg (gk - 1)
      case measure => omega
      case rel => exact ⟨k + 1, y, z - 1, by omega, rfl, by go_num, (by have := HZ.out; show _ = _; omega), HY, HP1, HB1⟩
    · have hkk : k = K := by omega
      subst hkk
      by_cases h1 : (0 : Int) < z
      · have h2 : ¬ ((x : Int) < n) := by
          have := HK.out
          have := HI.out
          have := HZ.out
          have := off_all ls (i := i + k) (by omega)
          have := HL.out
          have := HX.out
          omega
        go_wp2
        go_ret
        exact ⟨HB.out, by rw [HX.out]; rfl⟩
      · go_wp2
        go_ret
        exact ⟨HB.out, by rw [HX.out]; rfl⟩
set_option maxRecDepth 100000 in
set_option maxHeartbeats 4000000 in
theorem begin_any (B p : Nat) (a : Option Addr) (n c : Nat) (ls : List ByteArray) (i : Nat) (w : World) (hP : Pk w B p a n c ls) (hf : Fit ls) (hi : i ≤ ls.length) :
    Calls Tryz.prog 124 #[ptr p, .int .i64 (i : Nat)] w fun e w' => Below w.heap.size w w' ∧ e = .returned (.int .i64 (off ls i : Nat)) := by
  have hn := hP.max
  have hm := hP.many
  have hc := hP.cell
  have hd := hP.cnt
  obtain ⟨m, hM⟩ : ∃ m, ls.length = m := ⟨_, rfl⟩
  rw [hM] at hd hm hi
  have hq : (m : Int).tdiv 2 = ((m / 2 : Nat) : Int) := by rw [Int.tdiv_eq_ediv_of_nonneg (by omega)]; omega
  obtain ⟨q, hqq⟩ : ∃ q, m / 2 = q := ⟨_, rfl⟩
  rw [hqq] at hq
  by_cases hiq : i ≤ q
  · have HS := skip_any B p a n c ls 0 i w hP hf (Nat.zero_le _) (by omega) (by omega)
    rw [off_zero, Nat.zero_add, show gone ls 0 (i : Int) = i by unfold gone; omega] at HS
    obtain ⟨x, hx⟩ : ∃ x, off ls i = x := ⟨_, rfl⟩
    rw [hx] at HS ⊢
    clear hP hf hx
    go_enter Tryz.func124, Tryz.ntmps124
    go_wp2_with fail
    refine HS.mono ?_
    rintro e w1 ⟨hb, rfl⟩
    have HB : Hid (Below w.heap.size w w1) := hb
    clear hb
    go_wp2
    go_ret
    exact ⟨HB.out, rfl⟩
  · have HL : Hid ((pack ls).length = n) := hP.own.len
    have HP : Hid (Pk w B p a n c ls) := hP
    have HF : Hid (Fit ls) := hf
    have HM : Hid (ls.length = m) := hM
    have HX0 : Hid (off ls m = n) := by show _ = _; rw [off_all ls (by omega)]; exact hP.own.len
    obtain ⟨T, hT⟩ : ∃ T, m - i = T := ⟨_, rfl⟩
    clear hP hf hM
    go_enter Tryz.func124, Tryz.ntmps124
    go_wp2
    go_loopg [1, 5] T (fun g iv av wr => ∃ k x : Nat, k + g = T ∧ iv = .int .i64 (i + k : Nat) ∧ av = .int .i64 x ∧ Hid (off ls (m - k) = x) ∧ Hid (Pk wr B p a n c ls) ∧ Hid (Below w.heap.size w wr))
    case atStart => exact ⟨0, n, by omega, rfl, rfl, HX0, HP, Below.refl _ _⟩
    case round =>
      obtain ⟨k, x, hk, rfl, rfl, HX, HPr, HB⟩ := hrel
      have hc1 := HPr.out.cell
      have hd1 := HPr.out.cnt
      rw [HM.out] at hd1
      by_cases hkK : k < T
      · have h1 : ((i + k : Nat) : Int) < m := by omega
        have hxn : x ≤ n := by have := off_le ls (m - k); have := HL.out; have := HX.out; omega
        have hil : m - k - 1 < ls.length := by have := HM.out; omega
        have HD : Hid (bkAt (pack ls) (x : Nat) = some ((off ls (m - k - 1) : Nat) : Int)) := by
          show _ = _
          rw [← HX.out]
          have := bkAt_off HF.out hil
          rw [show m - k - 1 + 1 = m - k by omega] at this
          exact this
        have HC := Back_any a n c (pack ls) x wr HPr.out.own.rd
        rw [HD.out, kR_some] at HC
        obtain ⟨y, hy⟩ : ∃ y, off ls (m - k - 1) = y := ⟨_, rfl⟩
        rw [hy] at HC
        have HY : Hid (off ls (m - (k + 1)) = y) := hy
        clear hy HD
        go_wp2_with fail
        refine HC.mono ?_
        rintro e w1 ⟨hb, rfl⟩
        have HP1 : Hid (Pk w1 B p a n c ls) := HPr.out.keep hb
        have HB1 := step_below HB hb
        clear hb
        go_wp2
        go_roundg (gk - 1)
        case measure => omega
        case rel => exact ⟨k + 1, y, by omega, by go_num, rfl, HY, HP1, HB1⟩
      · have hkk : k = T := by omega
        subst hkk
        have h1 : ¬ (((i + k : Nat) : Int) < m) := by omega
        have HE : Hid (off ls i = x) := by have := HX.out; rw [show m - k = i by omega] at this; exact this
        go_wp2
        go_ret
        exact ⟨HB.out, by rw [HE.out]; rfl⟩
/-- The place that a number means. -/
def plc (m : Nat) (i : Int) : Option Nat := if 0 ≤ i then (if i < m then some i.toNat else none) else if -(m : Int) ≤ i then some (i + m).toNat else none
theorem Len_any (B p : Nat) (a : Option Addr) (n c : Nat) (ls : List ByteArray) (w : World) (hP : Pk w B p a n c ls) :
    Calls Tryz.prog 60 #[ptr p] w fun e w' => e = .returned (.int .i64 (ls.length : Nat)) ∧ w' = w := by
  have hd := hP.cnt
  clear hP
  go_enter Tryz.func60, Tryz.ntmps60
  go_wp2
  go_ret
  exact ⟨rfl, rfl⟩
theorem Size_pk (B p : Nat) (a : Option Addr) (n c : Nat) (ls : List ByteArray) (w : World) (hP : Pk w B p a n c ls) :
    Calls Tryz.prog 88 #[ptr p] w fun e w' => e = .returned (.int .i64 n) ∧ w' = w := by
  have hc := hP.cell
  clear hP
  go_enter Tryz.func88, Tryz.ntmps88
  go_wp2
  go_ret
  exact ⟨rfl, rfl⟩
/-- All is as it was, but for the pack and its row, and what is new. -/
structure Moves (w w' : World) (p : Nat) (a : Option Addr) : Prop where
  os : w'.os = w.os
  tape : w'.tape = w.tape
  output : w'.output = w.output
  size : w.heap.size ≤ w'.heap.size
  block : ∀ k, k < w.heap.size → k ≠ p → some k ≠ a.map (·.block) → w'.heap[k]? = w.heap[k]?
theorem Moves.refl (w : World) (p : Nat) (a : Option Addr) : Moves w w p a := ⟨rfl, rfl, rfl, Nat.le_refl _, fun _ _ _ _ => rfl⟩
theorem Moves.of_below {w w' : World} (h : Below w.heap.size w w') (p : Nat) (a : Option Addr) : Moves w w' p a := ⟨h.os, h.tape, h.output, h.size, fun k hk _ _ => h.block k hk⟩
theorem Moves.after {w w1 w2 : World} {p : Nat} {a : Option Addr} (h : Below w.heap.size w w1) (k : Moves w1 w2 p a) : Moves w w2 p a :=
  ⟨k.os.trans h.os, k.tape.trans h.tape, k.output.trans h.output, Nat.le_trans h.size k.size, fun i hi h1 h2 => (k.block i (Nat.lt_of_lt_of_le hi h.size) h1 h2).trans (h.block i hi)⟩
theorem Moves.below {w w' : World} {B p : Nat} {a : Option Addr} {n c : Nat} {l : List ByteArray} (h : Moves w w' p a) (hP : Pk w B p a n c l) : Below B w w' := by
  refine ⟨h.os, h.tape, h.output, h.size, fun k hk => h.block k (Nat.lt_trans (Nat.lt_of_lt_of_le hk hP.low) hP.lt) (by have := hP.low; omega) ?_⟩
  intro e
  cases a with
  | none => cases e
  | some x =>
    have := hP.own.block x.block rfl
    have e2 : k = x.block := Option.some.inj e
    omega
/-- A row of texts is no pack and no pack's row. -/
theorem OwnS.moves {w w' : World} {B C p : Nat} {a a2 : Option Addr} {n c n2 c2 : Nat} {l ls : List ByteArray} (h : OwnS w C a2 n2 c2 ls) (hm : Moves w w' p a) (hP : Pk w B p a n c l) : OwnS w' C a2 n2 c2 ls := by
  refine ⟨h.1, ?_⟩
  rcases h.2 with h2 | ⟨g, c', cur, h1, h3, h4, h5⟩
  · exact .inl h2
  · refine .inr ⟨g, c', cur, h1, h3, ?_, h5⟩
    rw [hm.block g (Array.getElem?_eq_some_iff.1 h4).1 ?_ ?_]
    · exact h4
    · intro e
      subst e
      rw [hP.blk] at h4
      simp at h4
    · intro e
      cases a with
      | none => cases e
      | some x =>
        cases e
        rcases hP.own.2 with ⟨k2, -⟩ | ⟨g', c3, cur', k1, k3, k4, k5⟩
        · cases k2
        · cases k1
          rw [k4] at h4
          simp at h4
/-- What a call answers that turns a pack. -/
def Turns (w : World) (B p : Nat) (a : Option Addr) (l : List ByteArray) (v : Value) (e : Ending) (w' : World) : Prop :=
  e = .returned v ∧ Moves w w' p a ∧ ∃ a' n' c', Pk w' B p a' n' c' l ∧ Went w a a'
set_option maxRecDepth 100000 in
set_option maxHeartbeats 4000000 in
theorem encodeAll_fit (a : Option Addr) (n c : Nat) (ls : List ByteArray) (w : World) (hR : RdS w a n ls) (hf : Fit ls) (hn : n ≤ 100000) :
    Calls Tryz.prog 123 #[.slice a n c] w fun e w' => Below w.heap.size w w' ∧ ∃ a2 n2 c2, e = .returned (.tuple #[.slice a2 n2 c2, .int .i64 0]) ∧ Own w' w.heap.size a2 n2 c2 (pack ls) ∧ (n2 = 0 → a2 = none) := by
  have HR : Hid (RdS w a n ls) := hR
  have HL : Hid (ls.length = n) := hR.len
  have HS : Hid (∀ s ∈ ls, s.size ≤ 4096) := hf
  have HO : Hid (Own w w.heap.size none 0 0 []) := Own.nil w _
  clear hR hf
  go_enter Tryz.func123, Tryz.ntmps123
  go_wp2
  go_loopg [4, 11] n (fun g bv iv wr => ∃ (i : Nat) (a2 : Option Addr) (n2 c2 : Nat), i + g = n ∧ Hid (i = 0 → a2 = none) ∧ bv = .slice a2 n2 c2 ∧ iv = .int .i64 i ∧ Hid (Own wr w.heap.size a2 n2 c2 (pack (ls.take i))) ∧ Hid (Below w.heap.size w wr))
  case atStart => exact ⟨0, none, 0, 0, by omega, (fun _ => rfl), rfl, rfl, HO, Below.refl _ _⟩
  case round =>
    obtain ⟨i, a2, n2, c2, hi, HN0, rfl, rfl, HO, HB⟩ := hrel
    by_cases h1 : (i : Int) < n
    · obtain ⟨b, off, ha, hc⟩ := HR.out.cell i (by omega)
      subst ha
      have hc1 : wr.cell? ⟨b, off + i, none⟩ = some (.string (ls.getD i ByteArray.empty)) := by
        rw [HB.out.cell (p := ⟨b, off + i, none⟩) (World.block_lt_of_cell? _ _ hc)]; exact hc
      have hil : i < ls.length := by have := HL.out; omega
      have hss := short_get HS.out i hil
      have HP : Hid (pack (ls.take i) ++ enc (lst (ls.getD i ByteArray.empty)) = pack (ls.take (i + 1))) := (pack_take ls i hil).symm
      have hl2 : n2 ≤ 500000000 := by
        have h2 := pack_len (ls.take i) 4096 (fun s hs => HS.out s (List.mem_of_mem_take hs))
        rw [HO.out.len, List.length_take] at h2
        have : min i ls.length * (4096 + 11) ≤ 100000 * (4096 + 11) := Nat.mul_le_mul_right _ (by omega)
        omega
      generalize ls.getD i ByteArray.empty = s at hc1 hss HP
      have HE := fun w => Encode_any s w hss
      have hel := (enc_len (lst s)).2
      rw [len_lst] at hel
      have HEL : Hid ((enc (lst s)).length ≤ 5000) := by show _ ≤ _; omega
      have HL2 : Hid (n2 ≤ 500000000) := hl2
      clear hc hil hl2 hel
      go_wp2_with fail
      refine (HE _).mono ?_
      rintro e w1 ⟨hb, a3, n3, c3, rfl, hO3⟩
      have HO1 : Hid (Own w1 w.heap.size a2 n2 c2 (pack (ls.take i))) := HO.out.keep hb
      have HR3 : Hid (Rd w1 a3 n3 c3 (enc (lst s))) := hO3.rd
      have H1 := step_below HB hb
      have HM : Hid (n2 + n3 ≤ 140737488355328) := by
        have := hO3.len
        have := HEL.out
        have := HL2.out
        show _ ≤ _
        omega
      clear hb hO3
      go_wp2_with (at_builtin; refine append_row rfl (.tmp 23) (.tmp 24) rfl w.heap.size rfl HO1.out rfl HR3.out HM.out H1.out.size ?_; intro a4 n4 c4 w4 hn4 hO4 hB4; have HO4 : Hid (Own w4 w.heap.size a4 n4 c4 (pack (ls.take (i + 1)))) := (by rw [HP.out] at hO4; exact hO4); have HB4 : Hid (Below w.heap.size w w4) := H1.out.trans hB4; clear hn4 hO4 hB4)
      go_roundg (gk - 1)
      case measure => omega
      case rel => exact ⟨i + 1, _, _, _, by omega, (fun h => absurd h (Nat.succ_ne_zero i)), rfl, by go_num, HO4, HB4⟩
    · have HE : Hid (pack (ls.take i) = pack ls) := by
        show _ = _
        rw [List.take_of_length_le (by have := HL.out; omega)]
      go_wp2
      go_ret2
      refine ⟨HB.out, _, _, _, rfl, by rw [← HE.out]; exact HO.out, fun h0 => HN0.out ?_⟩
      have h2 := HO.out.len
      have h3 := len_pack (ls.take i)
      rw [List.length_take] at h3
      have := HL.out
      omega
theorem Own.old {w : World} {B : Nat} {a : Option Addr} {n c : Nat} {l : List UInt8} (h : Own w B a n c l) : ∀ x, a = some x → x.block < w.heap.size := by
  intro x hx
  subst hx
  exact (h.lt x.block rfl).2
theorem Own.ne_pk {w : World} {B p : Nat} {a : Option Addr} {n c : Nat} {l : List UInt8} {v : Array Value} (h : Own w B a n c l) (hp : w.heap[p]? = some (.cells v 159 (0, 0))) : some p ≠ a.map (·.block) := by
  intro e
  cases a with
  | none => cases e
  | some x =>
    have e2 : p = x.block := Option.some.inj e
    rcases h.2 with ⟨k2, -⟩ | ⟨g', c3, cur', k1, k3, k4, k5⟩
    · cases k2
    · cases k1
      subst e2
      rw [k4] at hp
      simp at hp
/-- The pack has another row and another count. -/
theorem Pk.store {w w1 : World} {B p : Nat} {a a' : Option Addr} {n c n' c' : Nat} {ls ls' : List ByteArray} (hP : Pk w B p a n c ls) (hO : Own w1 B a' n' c' (pack ls')) (hg : w.grownBy w1 (a.map (·.block))) :
    Pk ((w1.setCell ⟨p, 0, none⟩ (.slice a' n' c')).setCell ⟨p, 1, none⟩ (.int .i64 (ls'.length : Nat))) B p a' n' c' ls' ∧ Moves w ((w1.setCell ⟨p, 0, none⟩ (.slice a' n' c')).setCell ⟨p, 1, none⟩ (.int .i64 (ls'.length : Nat))) p a := by
  have h1 : w1.heap[p]? = some (.cells #[.slice a n c, .int .i64 (ls.length : Nat)] 159 (0, 0)) := by rw [hg.block p hP.lt (hP.own.ne_pk hP.blk)]; exact hP.blk
  have h2 := grown_trans (grown_setCell w1 p 0 (.slice a' n' c')) (grown_setCell (w1.setCell ⟨p, 0, none⟩ (.slice a' n' c')) p 1 (.int .i64 (ls'.length : Nat)))
  refine ⟨⟨?_, hP.low, hO.grow h2 ?_⟩, ⟨h2.os.trans hg.os, h2.tape.trans hg.tape, h2.output.trans hg.output, Nat.le_trans hg.size h2.size, fun k hk k1 k2 => ?_⟩⟩
  · simp [World.setCell, Array.getElem?_modify, h1]
  · intro g e
    subst e
    have := hO.ne_pk h1
    intro e2
    exact this e2.symm
  · rw [h2.block k (Nat.lt_of_lt_of_le hk hg.size) (fun e => k1 (Option.some.inj e)), hg.block k hk k2]
theorem Pk.cell1 {w w1 : World} {B p : Nat} {a : Option Addr} {n c : Nat} {ls : List ByteArray} (hP : Pk w B p a n c ls) (hg : w.grownBy w1 (a.map (·.block))) (v : Value) : w1.cell? ⟨p, 0, none⟩ = some (.slice a n c) ∧ w1.frozen? ⟨p, 0, none⟩ = false ∧ (w1.setCell ⟨p, 0, none⟩ v).cell? ⟨p, 1, none⟩ = some (.int .i64 (ls.length : Nat)) ∧ (w1.setCell ⟨p, 0, none⟩ v).frozen? ⟨p, 1, none⟩ = false := by
  have h1 : w1.heap[p]? = some (.cells #[.slice a n c, .int .i64 (ls.length : Nat)] 159 (0, 0)) := by rw [hg.block p hP.lt (hP.own.ne_pk hP.blk)]; exact hP.blk
  exact ⟨by simp [World.cell?, h1], by simp [World.frozen?, h1], by simp [World.cell?, World.setCell, Array.getElem?_modify, h1], by simp [World.frozen?, World.setCell, Array.getElem?_modify, h1]⟩
theorem off_mono (ls : List ByteArray) (i g : Nat) : off ls i ≤ off ls (i + g) := by
  unfold off
  have : ls.take (i + g) = ls.take i ++ (ls.drop i).take g := List.take_add
  rw [this, pack_append, List.length_append]; omega
theorem rep_pack (ls ts : List ByteArray) (i g : Nat) : (pack ls).take (off ls i) ++ (pack ts ++ (pack ls).drop (off ls (i + g))) = pack (ls.take i ++ (ts ++ ls.drop (i + g))) := by
  rw [take_off, drop_off, pack_append, pack_append]
theorem rep_len (ls ts : List ByteArray) (i g : Nat) : (pack (ls.take i ++ (ts ++ ls.drop (i + g)))).length = (pack ls).length - (off ls (i + g) - off ls i) + (pack ts).length := by
  have h1 := off_mono ls i g
  have h2 := off_le ls (i + g)
  rw [← rep_pack, List.length_append, List.length_append, List.length_take, List.length_drop]
  omega
set_option maxRecDepth 100000 in
set_option maxHeartbeats 4000000 in
theorem replace_ok (B p : Nat) (a : Option Addr) (n c : Nat) (ls : List ByteArray) (a2 : Option Addr) (m c2 i g : Nat) (ts : List ByteArray) (w : World) (hP : Pk w B p a n c ls) (hf : Fit ls) (hn : n ≤ 65536) (hi : i + g ≤ ls.length) (hR : RdS w a2 m ts) (hl : Fit ts) (hm : m ≤ 100000) (hx : (pack (ls.take i ++ (ts ++ ls.drop (i + g)))).length ≤ 65536) :
    Calls Tryz.prog 90 #[ptr p, .int .i64 i, .int .i64 g, .slice a2 m c2] w fun e w' => Turns w B p a (ls.take i ++ (ts ++ ls.drop (i + g))) (.int .i64 0) e w' := by
  have HP : Hid (Pk w B p a n c ls) := hP
  have HE := encodeAll_fit a2 m c2 ts w hR hl hm
  have HG1 := fun (w1 : World) (h : Below w.heap.size w w1) => begin_any B p a n c ls i w1 (hP.keep h) hf (by omega)
  have HG2 := fun (w1 : World) (h : Below w.heap.size w w1) => begin_any B p a n c ls (i + g) w1 (hP.keep h) hf hi
  have hq := rep_len ls ts i g
  have h1 := off_mono ls i g
  have h2 := off_le ls (i + g)
  have hll : ls.length ≤ 65536 := by have := hP.many; omega
  have HLN : Hid ((ls.length : Int) + ((m : Int) - (g : Int)) = ((ls.take i ++ (ts ++ ls.drop (i + g))).length : Nat)) := by
    have := hR.len
    show _ = _
    rw [List.length_append, List.length_append, List.length_take, List.length_drop]
    omega
  have HQ : Hid ((pack ls).take (off ls i) ++ (pack ts ++ (pack ls).drop (off ls (i + g))) = pack (ls.take i ++ (ts ++ ls.drop (i + g)))) := rep_pack ls ts i g
  rw [hP.len] at hq h2
  have hig : i + g ≤ 65536 := by have := hP.many; omega
  have HT : Hid ((pack ts).length ≤ 65536) := by show _ ≤ _; omega
  have hc := hP.cell
  obtain ⟨x, hxx⟩ : ∃ x, off ls i = x := ⟨_, rfl⟩
  obtain ⟨y, hyy⟩ : ∃ y, off ls (i + g) = y := ⟨_, rfl⟩
  rw [hxx] at HG1 hq h1 HQ
  rw [hyy] at HG2 hq h1 h2 HQ
  have HX : Hid (n - (y - x) + (pack ts).length ≤ 65536) := by show _ ≤ _; omega
  have HZ : Hid (ts = [] → m = 0) := by show _ → _; intro h; have := hR.len; rw [h] at this; exact this.symm
  have hl0 := hP.own.old
  have HOld : Hid (∀ x, a = some x → x.block < w.heap.size) := hl0
  have hLB : B ≤ w.heap.size := Nat.le_trans hP.low (Nat.le_of_lt hP.lt)
  obtain ⟨LL, hLL⟩ : ∃ LL, ls.take i ++ (ts ++ ls.drop (i + g)) = LL := ⟨_, rfl⟩
  rw [hLL] at HLN HQ ⊢
  clear hP hf hR hl hx hxx hyy hq hi hLL hl0
  go_enter Tryz.func90, Tryz.ntmps90
  go_wp2_with fail
  refine HE.mono ?_
  rintro e w1 ⟨hb, a3, n3, c3, rfl, hO, hN⟩
  have HN : Hid (n3 = 0 → a3 = none) := hN
  have HB : Hid (Below w.heap.size w w1) := hb
  have HO : Hid (Own w1 w.heap.size a3 n3 c3 (pack ts)) := hO
  have hn3 : n3 ≤ 65536 := by have := hO.len; have := HT.out; omega
  have hx3 : n - (y - x) + n3 ≤ 65536 := by have := hO.len; have := HX.out; omega
  have HG := HG1 w1 hb
  clear hb hO hN HE HG1
  go_wp2_with fail
  refine HG.mono ?_
  rintro e w2 ⟨hb, rfl⟩
  have HB2 := step_below HB hb
  have HO2 : Hid (Own w2 w.heap.size a3 n3 c3 (pack ts)) := HO.out.keep hb
  have HG := HG2 w2 HB2.out
  clear hb HG2
  go_wp2_with fail
  refine HG.mono ?_
  rintro e w3 ⟨hb, rfl⟩
  have HB3 := step_below HB2 hb
  have HO3 : Hid (Own w3 w.heap.size a3 n3 c3 (pack ts)) := HO2.out.keep hb
  have HP3 : Hid (Pk w3 B p a n c ls) := HP.out.keep HB3.out
  have hc3 := HP3.out.cell
  have hd3 := HP3.out.cnt
  clear hb
  have HZ3 : 0 < n3 ∨ a3 = none := by
    rcases Nat.eq_zero_or_pos n3 with h0 | h0
    · right
      exact HN.out h0
    · exact .inl h0
  have HR := Replace_sl B w.heap.size a n c (pack ls) a3 n3 c3 (pack ts) x y w3 HP3.out.own HO3.out HOld.out h1 h2 HZ3 (by omega) (Nat.le_trans hLB HB3.out.size)
  rw [HQ.out] at HR
  obtain ⟨d, hd⟩ : ∃ d, y - x = d := ⟨_, rfl⟩
  obtain ⟨q, hq⟩ : ∃ q, n - d = q := ⟨_, rfl⟩
  have hdi : (y : Int) - (x : Int) = d := by omega
  have hqi : (n : Int) - (d : Int) = q := by omega
  have hx2 : ¬ ((65536 : Int) < (q : Int) + (n3 : Int)) := by omega
  go_wp2_with fail
  refine HR.mono ?_
  rintro e w4 ⟨a', n', c', rfl, hO, hg, hW⟩
  have HW : Hid (Went w a a') := by
    rcases hW with h | ⟨b, e1, e2⟩
    · exact .inl h
    · exact .inr ⟨b, e1, Nat.le_trans HB3.out.size e2⟩
  have HS : Hid (Pk ((w4.setCell ⟨p, 0, none⟩ (.slice a' n' c')).setCell ⟨p, 1, none⟩ (.int .i64 (LL.length : Nat))) B p a' n' c' LL ∧ Moves w3 ((w4.setCell ⟨p, 0, none⟩ (.slice a' n' c')).setCell ⟨p, 1, none⟩ (.int .i64 (LL.length : Nat))) p a) := HP3.out.store hO hg
  obtain ⟨hc4, hf4, hc5, hf5⟩ := HP3.out.cell1 hg (.slice a' n' c')
  have hln := HLN.out
  generalize ls.length = lsn at hc5 hln hll
  generalize LL.length = lln at HS hln
  clear hO hg hW HLN
  go_wp2
  go_ret
  exact ⟨rfl, HS.out.2.after HB3.out, _, _, _, HS.out.1, HW.out⟩
theorem RdS.made (w : World) (ts : List ByteArray) (n : Nat) (hn : ts.length = n) (hm : n ≤ maxLen) (vs : Array Value) (hv : vs = (ts.map Value.string).toArray) : RdS (w.alloc (.cells vs 9)) (some ⟨w.heap.size, 0, none⟩) n ts := by
  subst hv
  refine ⟨hn, hm, fun j hj => ⟨w.heap.size, 0, rfl, ?_⟩⟩
  have h := heap_alloc_new w (.cells (ts.map Value.string).toArray 9)
  simp only [World.cell?, h, Nat.zero_add]
  rw [List.getElem?_toArray, List.getElem?_map, List.getElem?_eq_getElem (by omega), List.getD_eq_getElem?_getD, List.getElem?_eq_getElem (by omega)]
  rfl
theorem RdS.box (w : World) (s : ByteArray) : RdS (w.alloc (.cells #[.string s] 9)) (some ⟨w.heap.size, 0, none⟩) 1 [s] := RdS.made w [s] 1 rfl (by decide) _ rfl
set_option maxRecDepth 100000 in
set_option maxHeartbeats 4000000 in
theorem Insert_to {P : World → Prop} (B p : Nat) (a : Option Addr) (n c : Nat) (ls : List ByteArray) (i : Nat) (a2 : Option Addr) (m c2 : Nat) (w : World) (hP : Pk w B p a n c ls) (hi : i ≤ ls.length) (z : Int)
    (H : Calls Tryz.prog 90 #[ptr p, .int .i64 i, .int .i64 0, .slice a2 m c2] w fun e w' => e = .returned (.int .i64 z) ∧ P w') :
    Calls Tryz.prog 59 #[ptr p, .int .i64 i, .slice a2 m c2] w fun e w' => e = .returned (.int .i64 z) ∧ P w' := by
  have hd := hP.cnt
  have h1 : ¬ ((i : Int) < 0) := by omega
  have h2 : ¬ ((ls.length : Int) < i) := by omega
  generalize ls.length = k at hd h2
  clear hP hi
  go_enter Tryz.func59, Tryz.ntmps59
  go_wp2_with fail
  refine H.mono ?_
  rintro e w1 ⟨rfl, hq⟩
  have HQ : Hid (P w1) := hq
  clear hq
  go_wp2
  go_ret
  exact ⟨rfl, HQ.out⟩
theorem Insert_ok (B p : Nat) (a : Option Addr) (n c : Nat) (ls : List ByteArray) (i : Nat) (a2 : Option Addr) (m c2 : Nat) (ts : List ByteArray) (w : World) (hP : Pk w B p a n c ls) (hf : Fit ls) (hn : n ≤ 65536) (hi : i ≤ ls.length) (hR : RdS w a2 m ts) (hl : Fit ts) (hm : m ≤ 100000) (hx : n + (pack ts).length ≤ 65536) :
    Calls Tryz.prog 59 #[ptr p, .int .i64 i, .slice a2 m c2] w fun e w' => Turns w B p a (ls.take i ++ (ts ++ ls.drop i)) (.int .i64 0) e w' := by
  refine Insert_to B p a n c ls i a2 m c2 w hP hi 0 ((replace_ok B p a n c ls a2 m c2 i 0 ts w hP hf hn hi hR hl hm ?_).mono fun _ _ h => h)
  rw [rep_len, hP.len, Nat.add_zero]
  omega
theorem fit_one {s : ByteArray} (h : s.size ≤ 4096) : Fit [s] := by
  intro t ht
  rw [List.mem_singleton.1 ht]; exact h
theorem Went.after {w w1 : World} {a a' : Option Addr} (hb : Below w.heap.size w w1) (h : Went w1 a a') : Went w a a' := by
  rcases h with h | ⟨q, e1, e2⟩
  · exact .inl h
  · exact .inr ⟨q, e1, Nat.le_trans hb.size e2⟩
/-- What a call answers that makes a pack. -/
def MakesPk (w : World) (l : List ByteArray) (e : Ending) (w' : World) : Prop :=
  Below w.heap.size w w' ∧ ∃ p a n c, e = .returned (ptr p) ∧ Pk w' w.heap.size p a n c l
theorem New_any (w : World) : Calls Tryz.prog 56 #[] w fun e w' => MakesPk w [] e w' := by
  go_enter Tryz.func56, Tryz.ntmps56
  go_wp2
  go_ret
  exact ⟨alloc_below w _, w.heap.size, none, 0, 0, rfl, heap_alloc_new w _, Nat.le_refl _, Own.nil _ _⟩
set_option maxRecDepth 100000 in
theorem Clone_any (a : Option Addr) (n c : Nat) (l : List UInt8) (w : World) (hR : Rd w a n c l) (hn : n ≤ 140737488355328) :
    Calls Tryz.prog 201 #[.slice a n c] w fun e w' => Makes w l e w' := by
  cases a with
  | none =>
    have h0 : l = [] := by
      cases l with
      | nil => rfl
      | cons x r =>
        obtain ⟨b, off, e, -⟩ := hR.cell 0 (by rw [← hR.len]; simp)
        cases e
    subst h0
    have heq : ∀ w, (binOp .eql 157 (.slice none n c) (.slice none 0 0)).run Tryz.prog w = .ok (.bool true) w := fun w => Lib.run_eql_slice_nil w 157 5 none n c 0 0 Tryz.underlying157
    clear hR
    go_enter Tryz.func201, Tryz.ntmps201
    go_wp2
    go_ret
    exact ⟨Below.refl _ _, none, 0, 0, rfl, Own.nil _ _⟩
  | some ad =>
    have HM : Hid (Own (w.alloc (.cells #[] 5)) w.heap.size (some ⟨w.heap.size, 0, none⟩) 0 0 []) := by
      have := Own.made w [] w.heap.size 0 rfl (Nat.le_refl _) (by decide)
      show Own _ _ _ _ _ _
      simpa [cells] using this
    have HR : Hid (Rd (w.alloc (.cells #[] 5)) (some ad) n c l) := hR.keep (alloc_below w _)
    have HN : Hid (0 + n ≤ 140737488355328) := by show _ ≤ _; omega
    have HS : Hid (w.heap.size ≤ (w.alloc (.cells #[] 5)).heap.size) := (alloc_below w _).size
    have heq : ∀ w, (binOp .eql 157 (.slice (some ad) n c) (.slice none 0 0)).run Tryz.prog w = .ok (.bool false) w := fun w => Lib.run_eql_slice_nil w 157 5 (some ad) n c 0 0 Tryz.underlying157
    clear hR
    go_enter Tryz.func201, Tryz.ntmps201
    go_wp2_with (at_builtin; refine append_row rfl (.tmp 5) (.tmp 6) rfl w.heap.size rfl HM.out rfl HR.out HN.out HS.out ?_; intro a4 n4 c4 w4 hn4 hO4 hB4; have HO4 : Hid (Own w4 w.heap.size a4 n4 c4 ([] ++ l)) := hO4; have HB4 : Hid (Below w.heap.size w w4) := (alloc_below w _).trans hB4; clear hn4 hO4 hB4)
    go_ret
    exact ⟨HB4.out, _, _, _, rfl, HO4.out⟩
theorem Bytes_pk (B p : Nat) (a : Option Addr) (n c : Nat) (l : List ByteArray) (w : World) (hP : Pk w B p a n c l) (hn : n ≤ 140737488355328) :
    Calls Tryz.prog 141 #[ptr p] w fun e w' => Makes w (pack l) e w' := by
  have hc := hP.cell
  have HC := Clone_any a n c (pack l) w hP.own.rd hn
  clear hP
  go_enter Tryz.func141, Tryz.ntmps141
  go_wp2_with fail
  refine HC.mono ?_
  rintro e w1 ⟨hb, a3, n3, c3, rfl, hO3⟩
  have HB : Hid (Below w.heap.size w w1) := hb
  have HO : Hid (Own w1 w.heap.size a3 n3 c3 (pack l)) := hO3
  clear hb hO3
  go_wp2
  go_ret
  exact ⟨HB.out, _, _, _, rfl, HO.out⟩
set_option maxRecDepth 100000 in
set_option maxHeartbeats 4000000 in
theorem Copy_any (B p : Nat) (a : Option Addr) (n c : Nat) (l : List ByteArray) (w : World) (hP : Pk w B p a n c l) (hn : n ≤ 140737488355328) :
    Calls Tryz.prog 108 #[ptr p] w fun e w' => MakesPk w l e w' := by
  have HP : Hid (Pk w B p a n c l) := hP
  have hd : w.drew.cell? ⟨p, 1, none⟩ = some (.int .i64 (l.length : Nat)) := (hP.keep (below_drewN w 1)).cnt
  have HC := Bytes_pk B p a n c l w.drew (hP.keep (below_drewN w 1)) hn
  clear hP
  go_enter Tryz.func108, Tryz.ntmps108
  go_wp2_with fail
  go_region_with (go_at_call 141; refine HC.mono ?_; rintro e w1 ⟨hb, a3, n3, c3, rfl, hO3⟩; have HB : Hid (Below w.heap.size w w1) := (below_drewN w 1).trans hb; have HO : Hid (Own w1 w.heap.size a3 n3 c3 (pack l)) := hO3; have hd1 := (HP.out.keep HB.out).cnt; clear hb hO3)
  all_goals
    go_wp2
    go_ret
    exact ⟨HB.out.trans ((alloc_below w1 _).mono HB.out.size), w1.heap.size, a3, n3, c3, rfl, heap_alloc_new w1 _, HB.out.size, HO.out.keep (alloc_below w1 _)⟩
set_option maxRecDepth 100000 in
set_option maxHeartbeats 4000000 in
theorem All_any (B p : Nat) (a : Option Addr) (n c : Nat) (ls : List ByteArray) (w : World) (hP : Pk w B p a n c ls) (hf : Fit ls) (hm : n ≤ 1000000) :
    Calls Tryz.prog 113 #[ptr p] w fun e w' => Below w.heap.size w w' ∧ ∃ a2 n2 c2, e = .returned (.slice a2 n2 c2) ∧ OwnS w' w.heap.size a2 n2 c2 ls := by
  obtain ⟨m, hM⟩ : ∃ m, ls.length = m := ⟨_, rfl⟩
  have HL : Hid ((pack ls).length = n) := hP.own.len
  have hmn : 2 * m ≤ n := by have := len_pack ls; have := hP.own.len; omega
  have HP : Hid (Pk w B p a n c ls) := hP
  have HF : Hid (Fit ls) := hf
  have HM : Hid (ls.length = m) := hM
  have HO : Hid (OwnS w w.heap.size none 0 0 (ls.take 0)) := World.ownsRow_nil w _ 9 1
  have HX0 : Hid (off ls 0 = 0) := rfl
  clear hP hf hM
  go_enter Tryz.func113, Tryz.ntmps113
  go_wp2
  go_loopg [3, 4] m (fun g lv av wr => ∃ k x : Nat, ∃ a2 n2 c2, k + g = m ∧ lv = .slice a2 n2 c2 ∧ av = .int .i64 x ∧ Hid (off ls k = x) ∧ Hid (OwnS wr w.heap.size a2 n2 c2 (ls.take k)) ∧ Hid (Pk wr B p a n c ls) ∧ Hid (Below w.heap.size w wr))
  case atStart => exact ⟨0, 0, none, 0, 0, by omega, rfl, rfl, HX0, HO, HP, Below.refl _ _⟩
  case round =>
    obtain ⟨k, x, a2, n2, c2, hk, rfl, rfl, HX, HO, HPr, HB⟩ := hrel
    have hc1 := HPr.out.cell
    by_cases hkm : k < m
    · have hil : k < ls.length := by have := HM.out; omega
      have h2 : (x : Int) < n := by have := off_lt ls hil; have := HL.out; have := HX.out; omega
      have HD : Hid (decAt (pack ls) (x : Nat) = some (lst (txt ls k), off ls (k + 1))) := by show _ = _; rw [← HX.out]; exact decAt_off HF.out hil
      have HC := Decode_any a n c (pack ls) x wr HPr.out.own.rd (by omega)
      rw [HD.out, cR_some, bs_lst] at HC
      obtain ⟨y, hy⟩ : ∃ y, off ls (k + 1) = y := ⟨_, rfl⟩
      rw [hy] at HC
      have HY : Hid (off ls (k + 1) = y) := hy
      have HT : Hid (ls.take k ++ [txt ls k] = ls.take (k + 1)) := (take_snocB ls k hil).symm
      generalize txt ls k = s at HC HT
      have HN : Hid (n2 + 1 ≤ 1000000) := by
        have := HO.out.len
        rw [List.length_take] at this
        show _ ≤ _
        omega
      clear hy HD
      go_wp2_with fail
      refine HC.mono ?_
      rintro e w1 ⟨hb, rfl⟩
      have HP1 : Hid (Pk w1 B p a n c ls) := HPr.out.keep hb
      have HB1 := step_below HB hb
      have HO1 : Hid (OwnS w1 w.heap.size a2 n2 c2 (ls.take k)) := HO.out.keep hb
      have hsz := HB1.out.size
      clear hb
      go_wp2_with (at_builtin; refine append_str rfl (.tmp 25) (.tmp 27) rfl w.heap.size rfl (HO1.out.keep (alloc_below w1 _)) rfl (by simp; rfl) HN.out (Nat.le_trans hsz (alloc_below w1 _).size) ?_; intro a3 n3 c3 w3 hn3 hO3 hB3; have HO3 : Hid (OwnS w3 w.heap.size a3 n3 c3 (ls.take (k + 1))) := (by rw [HT.out] at hO3; exact hO3); have HB3 : Hid (Below w.heap.size w w3) := (HB1.out.trans ((alloc_below w1 _).mono hsz)).trans hB3; clear hn3 hO3 hB3)
      have HP3 : Hid (Pk w3 B p a n c ls) := HP.out.keep HB3.out
      go_roundg (gk - 1)
      case measure => omega
      case rel => exact ⟨k + 1, y, _, _, _, by omega, rfl, rfl, HY, HO3, HP3, HB3⟩
    · have hkk : k = m := by omega
      subst hkk
      have h2 : ¬ ((x : Int) < n) := by
        have := off_all ls (i := k) (by have := HM.out; omega)
        have := HL.out
        have := HX.out
        omega
      have HE : Hid (ls.take k = ls) := List.take_of_length_le (by have := HM.out; omega)
      go_wp2
      go_ret
      exact ⟨HB.out, _, _, _, rfl, by rw [HE.out] at HO; exact HO.out⟩
theorem str_beq (s t : ByteArray) : (s.toList == t.toList) = decide (s = t) := by
  rw [toList_beq]
/-- A slice that reads the texts ls, with its room. -/
structure RdL (w : World) (a : Option Addr) (n cap : Nat) (ls : List ByteArray) : Prop where
  rd : RdS w a n ls
  fit : n ≤ cap
  max : cap ≤ maxLen
  nul : a = none → cap = 0
theorem RdL.keep {w wn : World} {a : Option Addr} {n cap : Nat} {ls : List ByteArray} (h : RdL w a n cap ls) (hb : Below w.heap.size w wn) : RdL wn a n cap ls := ⟨h.rd.keep hb, h.fit, h.max, h.nul⟩
theorem OwnS.rl {w : World} {B : Nat} {a : Option Addr} {n cap : Nat} {ls : List ByteArray} (h : OwnS w B a n cap ls) : RdL w a n cap ls := by
  refine ⟨h.rd, ?_, ?_, ?_⟩
  all_goals
    rcases h.2 with ⟨h2, h3⟩ | ⟨g, c, cur, h1, h3, h4, h5, h6, h7⟩
  · cases h2; omega
  · cases h1; exact h5
  · cases h2; decide
  · cases h1; exact h6
  · cases h2; intro; rfl
  · cases h1; intro e; cases e
theorem RdL.sub {w : World} {a : Option Addr} {n cap : Nat} {l : List ByteArray} (h : RdL w a n cap l) (lo hi : Nat) (h1 : lo ≤ hi) (h2 : hi ≤ n) :
    RdL w (if cap = lo then a else a.map (·.add (lo * 1))) (hi - lo) (cap - lo) ((l.drop lo).take (hi - lo)) := by
  have hl := h.rd.len
  have hf := h.fit
  have hx := h.max
  refine ⟨⟨?_, ?_, fun j hj => ?_⟩, by omega, by omega, fun hn => ?_⟩
  · rw [List.length_take, List.length_drop, hl]; omega
  · omega
  · obtain ⟨b, off, e, hc⟩ := h.rd.cell (lo + j) (by omega)
    subst e
    have hne : ¬ cap = lo := by omega
    refine ⟨b, off + lo, ?_, ?_⟩
    · rw [if_neg hne, Option.map_some, Nat.mul_one, add_flat]
    · rw [Nat.add_assoc, hc, List.getD_eq_getElem?_getD, List.getD_eq_getElem?_getD, List.getElem?_take, if_pos hj, List.getElem?_drop]
  · cases a with
    | none => have := h.nul rfl; omega
    | some x => split at hn <;> simp at hn
theorem Tryz.size9 (w : World) : (sizeOf 9).run Tryz.prog w = .ok 1 w := by go_simp
theorem Tryz.elem27 : Tryz.prog.elem 27 = 9 := by simp [Program.elem, Tryz.underlying27]
theorem RdL.slice_l {w : World} {a : Option Addr} {n cap : Nat} {l : List ByteArray} (h : RdL w a n cap l) (lo : Nat) (h1 : lo ≤ n) :
    ∃ a' cap', (∀ wx, (Instr.sliceAt 27 (.slice a n cap) (some (.int .i64 lo)) none none).run Tryz.prog wx = .ok (.slice a' (n - lo) cap') wx) ∧ RdL w a' (n - lo) cap' (l.drop lo) := by
  have hs := h.sub lo n h1 (Nat.le_refl _)
  rw [List.take_of_length_le (by rw [List.length_drop, h.rd.len]; omega)] at hs
  refine ⟨_, _, fun wx => ?_, hs⟩
  have ht : Tryz.prog.underlying 27 = some (.slice (Tryz.prog.elem 27)) := by rw [Tryz.elem27]; exact Tryz.underlying27
  rw [run_sliceAt_slice _ _ _ _ _ _ ht, run_slice_l (P := Tryz.prog) wx 27 a n cap ht .i64 lo (by omega) (by omega), Tryz.elem27, Tryz.size9]
  simp [Result.andThen, sliced]
theorem RdL.slice_h {w : World} {a : Option Addr} {n cap : Nat} {l : List ByteArray} (h : RdL w a n cap l) (hi : Nat) (h1 : hi ≤ n) :
    ∃ a' cap', (∀ wx, (Instr.sliceAt 27 (.slice a n cap) none (some (.int .i64 hi)) none).run Tryz.prog wx = .ok (.slice a' hi cap') wx) ∧ RdL w a' hi cap' (l.take hi) := by
  have hs := h.sub 0 hi (Nat.zero_le _) h1
  rw [List.drop_zero, Nat.sub_zero, Nat.sub_zero] at hs
  refine ⟨_, _, fun wx => ?_, hs⟩
  have ht : Tryz.prog.underlying 27 = some (.slice (Tryz.prog.elem 27)) := by rw [Tryz.elem27]; exact Tryz.underlying27
  rw [run_sliceAt_slice _ _ _ _ _ _ ht, run_slice_h (P := Tryz.prog) wx 27 a n cap ht .i64 hi (by omega) (by have := h.fit; omega), Tryz.elem27, Tryz.size9]
  simp [Result.andThen, sliced]
/-- append(l, x...) at rows of texts. -/
theorem run_append_strs (w : World) (B : Nat) (a : Option Addr) (n cap : Nat) (ls : List ByteArray) (hown : OwnS w B a n cap ls) (a' : Option Addr) (n' cap' : Nat) (rs : List ByteArray) (hr : RdL w a' n' cap' rs) (hb : n + n' ≤ 1000000) (hB : B ≤ w.heap.size) (ty : TypeId) :
    ∃ a2 c2 w2, (Builtin.append_ #[27, 27] ty #[.slice a n cap, .slice a' n' cap']).run Tryz.prog w = .ok (.slice a2 (n + n') c2) w2 ∧ OwnS w2 B a2 (n + n') c2 (ls ++ rs) ∧ Below B w w2 := by
  obtain ⟨i0, hi, hz0, hz1, hz2⟩ := info_parts Tryz.info9
  have hblk : ∀ k, (Value.slice a n cap).ownBlock = some k → B ≤ k := fun k hk => (hown.lt k hk).1
  cases a' with
  | none =>
    have hrl := hr.rd.len
    have hc0 := hr.nul rfl
    have hf := hr.fit
    have hn0 : n' = 0 := by omega
    subst hn0
    subst hc0
    have hr0 : rs = [] := List.length_eq_zero_iff.1 hrl
    subst hr0
    refine ⟨a, cap, w, ?_, by rw [List.append_nil]; exact hown, Below.refl _ _⟩
    have := run_append_owned_none (P := Tryz.prog) w B 27 ty 9 i0 1 Tryz.underlying27 hi (.slice a n cap) n (ls.map Value.string) hown
    exact this
  | some ad =>
    have hrun := run_append_own (P := Tryz.prog) w B 27 ty 9 i0 (.string ⟨#[]⟩) 1 16 Tryz.underlying27 hi hz0 hz1 hz2 rfl (by decide) (.slice a n cap) n (ls.map Value.string) hown ad n' cap' (rs.map Value.string) (by rw [List.length_map, hr.rd.len]; omega) (fun j u hu => by
      rw [List.getElem?_map] at hu
      have hj : j < rs.length := by
        rcases Nat.lt_or_ge j rs.length with h | h
        · exact h
        · rw [List.getElem?_eq_none h] at hu; cases hu
      obtain ⟨b, off, e, hc⟩ := hr.rd.cell j (by rw [← hr.rd.len]; exact hj)
      cases e
      rw [add_flat, hc, List.getD_eq_getElem?_getD]
      rw [List.getElem?_eq_getElem hj] at hu ⊢
      exact hu) (by simp [Value.oneCell']) (by unfold maxLen; omega) (by omega) hB
    obtain ⟨v', w', h1, h2, h3, -⟩ := hrun
    rw [← List.map_append] at h2
    have hbel : Below B w w' := (Below.refl B w).grown h3 hB hblk
    rcases h2.2 with ⟨rfl, h4⟩ | ⟨g, c, cur, rfl, h4⟩
    · refine ⟨none, 0, w', by rw [h1, h4], ?_, hbel⟩
      rw [h4] at h2 ⊢
      exact h2
    · exact ⟨_, _, w', h1, h2, hbel⟩
theorem append_strs {w : World} {ops : Array Oper} {rest : List Oper} {o : Oper} {ac : Act} {Q : Exit → Act → World → Prop} (hgd : o.guard = none) (s x : Operand) (ho : o.op = .call { callee := .builtin .append, args := #[s, x], argTypes := #[27, 27] })
    (B : Nat) {a : Option Addr} {n cap : Nat} {ls : List ByteArray} (hs : ac.eval s = .slice a n cap) (hown : OwnS w B a n cap ls)
    {a' : Option Addr} {n' cap' : Nat} {rs : List ByteArray} (hx : ac.eval x = .slice a' n' cap') (hr : RdL w a' n' cap' rs) (hb : n + n' ≤ 1000000) (hB : B ≤ w.heap.size)
    (h : ∀ a2 n2 c2 w2, n2 = n + n' → Hid (OwnS w2 B a2 n2 c2 (ls ++ rs)) → Hid (Below B w w2) → wpList Tryz.prog ops Q rest (ac.put o.dst (.slice a2 n2 c2)) w2) : wpList Tryz.prog ops Q (o :: rest) ac w := by
  obtain ⟨a2, c2, w2, h1, h2, h3⟩ := run_append_strs w B a n cap ls hown a' n' cap' rs hr hb hB o.type
  refine wpList_plain hgd fun K hK => ?_
  unfold Oper.wp
  simp [execOp, ho, resolve, invoke, builtin, hs, hx, h1, Result.andThen]
  exact hK _ _ (h a2 _ c2 w2 rfl h2 h3)
/-- A row of texts that was made in its place. -/
theorem OwnS.made (w : World) (ls : List ByteArray) (B n : Nat) (hn : ls.length = n) (hB : B ≤ w.heap.size) (hm : n ≤ maxLen) (vs : Array Value) (hv : vs = (ls.map Value.string).toArray) : OwnS (w.alloc (.cells vs 9)) B (some ⟨w.heap.size, 0, none⟩) n n ls := by
  subst hv
  refine ⟨by simp [hn], .inr ⟨w.heap.size, n, (ls.map Value.string).toArray, rfl, hB, heap_alloc_new w _, Nat.le_refl _, hm, by simp [hn], ?_⟩⟩
  rw [List.take_of_length_le (by simp [hn])]
/-- l[i] = s. -/
theorem OwnS.set {w : World} {B : Nat} {a : Option Addr} {n c : Nat} {ls : List ByteArray} (h : OwnS w B a n c ls) (i : Nat) (hi : i < n) (s : ByteArray) :
    ∃ g, a = some ⟨g, 0, none⟩ ∧ B ≤ g ∧ (∃ v, w.cell? ⟨g, i, none⟩ = some v) ∧ w.frozen? ⟨g, i, none⟩ = false ∧ OwnS (w.setCell ⟨g, i, none⟩ (.string s)) B a n c (ls.set i s) := by
  rcases h.2 with ⟨h2, h3⟩ | ⟨g, c', cur, h1, h3, h4, h5, h6, h7, h8⟩
  · omega
  · cases h1
    have hlt : g < w.heap.size := (Array.getElem?_eq_some_iff.1 h4).1
    refine ⟨g, rfl, h3, ⟨cur[i]'(by omega), ?_⟩, ?_, ⟨by rw [List.map_set, List.length_set]; exact h.1, .inr ⟨g, _, cur.setIfInBounds i (.string s), rfl, h3, ?_, h5, h6, by simpa using h7, ?_⟩⟩⟩
    · simp [World.cell?, h4]
    · simp [World.frozen?, h4]
    · simp [World.setCell, Array.getElem?_modify, h4]
    · rw [Array.toList_setIfInBounds, List.take_set, h8, List.map_set]
end Go.Proofs.YtmjeljldmmkcpabGreat
