/- Texts that the others stand on. -/
import Derived.Test.YtikimcbalkhooaaGreatJ20
import Derived.Deep.RegionHeld3
namespace Go.Proofs.YtikimcbalkhooaaGreat
open Go.RowKit Go.PlainAid
open Dk (En keysOf hasK putE)
def Vl (w : World) (B : Nat) (d : VD) (v : Value) : Prop :=
 match d with
 | .txt t => v = .agg #[.int .i64 1, .string t, .slice none 0 0, .slice none 0 0]
 | .hsh es => ∃ a n c, v = .agg #[.int .i64 2, .string ⟨#[]⟩, .slice a n c, .slice none 0 0] ∧ OwnQ w B a n c es
 | .set l => ∃ a n c, v = .agg #[.int .i64 3, .string ⟨#[]⟩, .slice none 0 0, .slice a n c] ∧ OwnS w B a n c l
 | .lst l => ∃ a n c, v = .agg #[.int .i64 4, .string ⟨#[]⟩, .slice none 0 0, .slice a n c] ∧ OwnS w B a n c l
def VD.once : VD → Prop
 | .hsh es => (keysOf es).Nodup
 | .set l => l.Nodup
 | _ => True
theorem alloc_lt (w : World) (cs : Array Value) (t : TypeId) : w.heap.size < (w.alloc (.cells cs t)).heap.size := (Array.getElem?_eq_some_iff.1 (heap_alloc_new w (.cells cs t))).1
theorem putE_new {es : List En} {k v : ByteArray} (h : k ∉ keysOf es) : putE es k v = es ++ [(k, v)] := by
 unfold putE; rw [if_neg (by rw [Dk.hasK_no h]; decide)]
theorem nod_take {es : List En} (h : (keysOf es).Nodup) {i : Nat} (hi : i < es.length) : (es.getD i (⟨#[]⟩, ⟨#[]⟩)).1 ∉ keysOf (es.take i) := by
 have e := Dk.take_snoc es (⟨#[]⟩, ⟨#[]⟩) i hi
 have h1 : (keysOf (es.take (i + 1))).Nodup := by
  unfold keysOf at h ⊢
  rw [List.map_take]
  exact h.sublist (List.take_sublist _ _)
 rw [e] at h1
 unfold keysOf at h1
 rw [List.map_append, List.nodup_append] at h1
 intro hm
 exact h1.2.2 _ hm _ (by simp) rfl
theorem nod_takeB {l : List ByteArray} (h : l.Nodup) {i : Nat} (hi : i < l.length) : l.getD i ByteArray.empty ∉ l.take i := by
 have e := take_snocB l i hi
 have h1 : (l.take (i + 1)).Nodup := h.sublist (List.take_sublist _ _)
 rw [e, List.nodup_append] at h1
 intro hm
 exact h1.2.2 _ hm _ (by simp) rfl
def MadeV (w w' : World) (d : VD) (e : Ending) : Prop := Below w.heap.size w w' ∧ ∃ v F one, e = .returned (ptr v) ∧ PV w' w.heap.size v d one F
set_option maxRecDepth 100000 in
theorem made_txt (x : Nat) (e t : Int) (s : ByteArray) (w : World) :
  Calls Tryz.prog 8 #[.agg #[.int .i64 1, .string s, .slice none 0 0, .slice none 0 0], .int .u64 x, .agg #[.int .i64 e, .int .i64 t]] w fun en w' => MadeV w w' (.txt s) en := by
 obtain ⟨w0, hw0⟩ : ∃ w0, w.alloc (.cells #[.int .i64 1, .string s, .slice none 0 0, .slice none 0 0] 29) = w0 := ⟨_, rfl⟩
 obtain ⟨w1, hw1⟩ : ∃ w1, w0.alloc (.cells #[.int .i64 e, .int .i64 t] 28) = w1 := ⟨_, rfl⟩
 have hb0 : Below w.heap.size w w0 := by rw [← hw0]; exact alloc_below w _
 have hb1 : Below w0.heap.size w0 w1 := by rw [← hw1]; exact alloc_below w0 _
 have HB1 : Hid (Below w.heap.size w w1) := hb0.trans (hb1.mono hb0.size)
 have hlt : w.heap.size < w0.heap.size := by rw [← hw0]; exact alloc_lt w _ _
 have hc0 : w1.cell? ⟨w.heap.size, 0, none⟩ = some (.int .i64 1) := by rw [hb1.cell (p := ⟨w.heap.size, 0, none⟩) hlt, ← hw0]; exact cell_new w _ _ 0 _ rfl
 have hc1 : w1.cell? ⟨w.heap.size, 1, none⟩ = some (.string s) := by rw [hb1.cell (p := ⟨w.heap.size, 1, none⟩) hlt, ← hw0]; exact cell_new w _ _ 1 _ rfl
 have HO := OfText_any s w1
 clear hb0 hb1 hlt
 go_enter Tryz.func8, Tryz.ntmps8
 go_wp2_with fail
 refine HO.mono ?_
 rintro en w2 ⟨hb, v, rfl, hV⟩
 have HB2 := step_below HB1 hb
 have HV : Hid (PV w2 w.heap.size v (.txt s) true []) := by
  obtain ⟨h1, h2, h3⟩ := hV
  exact ⟨h1, Nat.le_trans HB1.out.size h2, Nat.le_trans HB1.out.size h3⟩
 clear hb hV HO
 go_wp2
 go_ret
 exact ⟨HB2.out, v, [], true, rfl, HV.out⟩
set_option maxRecDepth 100000 in
set_option maxHeartbeats 4000000 in
theorem made_h (x : Nat) (e t : Int) (B : Nat) (a : Option Addr) (n c : Nat) (es : List En) (w : World) (hx : x < 18446744073709551616) (hO : OwnQ w B a n c es) (hn : n ≤ 100) (hsz : Sz 100 es) (hnd : (keysOf es).Nodup) :
  Calls Tryz.prog 8 #[.agg #[.int .i64 2, .string ⟨#[]⟩, .slice a n c, .slice none 0 0], .int .u64 x, .agg #[.int .i64 e, .int .i64 t]] w fun en w' => MadeV w w' (.hsh es) en := by
 obtain ⟨w0, hw0⟩ : ∃ w0, w.alloc (.cells #[.int .i64 2, .string ⟨#[]⟩, .slice a n c, .slice none 0 0] 29) = w0 := ⟨_, rfl⟩
 obtain ⟨w1, hw1⟩ : ∃ w1, w0.alloc (.cells #[.int .i64 e, .int .i64 t] 28) = w1 := ⟨_, rfl⟩
 have hb0 : Below w.heap.size w w0 := by rw [← hw0]; exact alloc_below w _
 have hb1 : Below w0.heap.size w0 w1 := by rw [← hw1]; exact alloc_below w0 _
 have HB1 : Hid (Below w.heap.size w w1) := hb0.trans (hb1.mono hb0.size)
 have hlt : w.heap.size < w0.heap.size := by rw [← hw0]; exact alloc_lt w _ _
 have hlt1 : w0.heap.size < w1.heap.size := by rw [← hw1]; exact alloc_lt w0 _ _
 have hc0 : w1.cell? ⟨w.heap.size, 0, none⟩ = some (.int .i64 2) := by rw [hb1.cell (p := ⟨w.heap.size, 0, none⟩) hlt, ← hw0]; exact cell_new w _ _ 0 _ rfl
 have hc2 : w1.cell? ⟨w.heap.size, 2, none⟩ = some (.slice a n c) := by rw [hb1.cell (p := ⟨w.heap.size, 2, none⟩) hlt, ← hw0]; exact cell_new w _ _ 2 _ rfl
 have hc5 : w1.cell? ⟨w0.heap.size, 0, none⟩ = some (.int .i64 e) := by rw [← hw1]; exact cell_new w0 _ _ 0 _ rfl
 have hc6 : w1.cell? ⟨w0.heap.size, 1, none⟩ = some (.int .i64 t) := by rw [← hw1]; exact cell_new w0 _ _ 1 _ rfl
 have HC : Hid (∀ wx, Below w1.heap.size w1 wx → wx.cell? ⟨w.heap.size, 0, none⟩ = some (.int .i64 2) ∧ wx.cell? ⟨w.heap.size, 2, none⟩ = some (.slice a n c)) := fun wx hb => by
  rw [hb.cell (p := ⟨w.heap.size, 0, none⟩) (Nat.lt_trans hlt hlt1), hb.cell (p := ⟨w.heap.size, 2, none⟩) (Nat.lt_trans hlt hlt1)]; exact ⟨hc0, hc2⟩
 have HO1 : Hid (OwnQ w1 B a n c es) := hO.keep (HB1.out)
 have HL : Hid (es.length = n) := OwnQ.len hO
 have HSz : Hid (Sz 100 es) := hsz
 have HNd : Hid ((keysOf es).Nodup) := hnd
 have HN := New_h x e t w1 hx
 clear hb0 hb1 hlt hlt1 hO hsz hnd
 go_enter Tryz.func8, Tryz.ntmps8
 go_wp2_with fail
 refine HN.mono ?_
 rintro en w2 ⟨hb, v, F0, rfl, hV⟩
 obtain ⟨m, x1, E, T, hVB, hH⟩ := hV.hash
 have hvl := hV.low
 have HVB : Hid (VB w2 v 2 ⟨#[]⟩ (ptr m) (.pointer none) (.pointer none)) := hVB
 have HH : Hid (Hm w2 w1.heap.size m x1 E T [] true F0) := hH
 have HB2 : Hid (Below w1.heap.size w1 w2) := hb
 obtain ⟨d0, d2⟩ := HC.out w2 hb
 have k2 := hVB.ch
 clear hb hV hVB hH HN hc0 hc2 hc5 hc6
 go_wp2
 go_loopg [8] n (fun g iv wr => ∃ (i : Nat) (pk : Bool) (F : List Nat), i + g = n ∧ iv = .int .i64 i ∧ Hid (VB wr v 2 ⟨#[]⟩ (ptr m) (.pointer none) (.pointer none)) ∧ Hid (Hm wr w1.heap.size m x1 E T (es.take i) pk F) ∧ Hid (Below w1.heap.size w1 wr))
 case atStart => exact ⟨0, true, F0, by omega, rfl, HVB, HH, HB2⟩
 case round =>
  obtain ⟨i, pk, F, hi, rfl, HV, HM, HB⟩ := hrel
  obtain ⟨f0, f2⟩ := HC.out wr HB.out
  by_cases h8 : (i : Int) < n
  ·have hbd : Below wr.heap.size wr wr.drew := below_drewN wr 1
   have HBd := step_below HB hbd
   obtain ⟨g0, g2⟩ := HC.out wr.drew HBd.out
   obtain ⟨g, hg, hx1, hx2⟩ := OwnQ.cell (HO1.out.keep HBd.out) (j := i) (by omega)
   have kd := (HV.out.keep hbd).ch
   have HKn : Hid ((es.getD i (⟨#[]⟩, ⟨#[]⟩)).1 ∉ keysOf (es.take i)) := nod_take HNd.out (by have := HL.out; omega)
   have HTk : Hid (es.take (i + 1) = es.take i ++ [es.getD i (⟨#[]⟩, ⟨#[]⟩)]) := Dk.take_snoc es (⟨#[]⟩, ⟨#[]⟩) i (by have := HL.out; omega)
   have HZz : Hid ((es.getD i (⟨#[]⟩, ⟨#[]⟩)).1.size ≤ 100 ∧ (es.getD i (⟨#[]⟩, ⟨#[]⟩)).2.size ≤ 100) := by
    refine HSz.out _ ?_
    rw [List.getD_eq_getElem?_getD, List.getElem?_eq_getElem (by have := HL.out; omega)]; exact List.getElem_mem _
   have HLt : Hid ((es.take i).length < 1000000) := by show _ < _; rw [List.length_take]; have := HL.out; omega
   obtain ⟨⟨K, U⟩, hp⟩ : ∃ p, es.getD i (⟨#[]⟩, ⟨#[]⟩) = p := ⟨_, rfl⟩
   rw [hp] at hx1 hx2 HKn HTk HZz
   simp only at hx1 hx2 HKn HZz
   have HS := SetH w1.heap.size m x1 E T (es.take i) pk F K U wr.drew (HM.out.keep hbd) (by have := HZz.out; omega) (by have := HZz.out; omega) HLt.out
   rw [putE_new HKn.out, ← HTk.out] at HS
   generalize pkE (es.take i) pk E T K U = pk2 at HS
   subst hg
   have hn2 : n * 2 ≤ 2000 := by omega
   have HVd : Hid (VB wr.drew v 2 ⟨#[]⟩ (ptr m) (.pointer none) (.pointer none)) := HV.out.keep hbd
   have HMd : Hid (Hm wr.drew w1.heap.size m x1 E T (es.take i) pk F) := HM.out.keep hbd
   have HCs : Hid (∀ wx, Below w1.heap.size w1 wx → wx.cell? ⟨w.heap.size, 2, none⟩ = some (.slice (some ⟨g, 0, none⟩) n c) ∧ wx.cell? ⟨g, i * 2, none⟩ = some (.string K) ∧ wx.cell? ⟨g, i * 2 + 1, none⟩ = some (.string U)) := fun wx hb => by
    obtain ⟨g', hg', q1, q2⟩ := OwnQ.cell (HO1.out.keep hb) (j := i) (by omega)
    obtain rfl : g = g' := by injection hg' with e1; injection e1
    rw [hp] at q1 q2
    exact ⟨(HC.out wx hb).2, q1, q2⟩
   have HSd : Hid (wr.drew.cell? ⟨v, 2, none⟩ = some (ptr m) ∧ wr.drew.cell? ⟨w.heap.size, 2, none⟩ = some (.slice (some ⟨g, 0, none⟩) n c) ∧ wr.drew.cell? ⟨g, i * 2, none⟩ = some (.string K) ∧ wr.drew.cell? ⟨g, i * 2 + 1, none⟩ = some (.string U)) := ⟨kd, HCs.out _ HBd.out⟩
   clear hbd hp hx1 hx2 kd g0 g2
   go_upto_region 11 with fail
   go_region_held3 (fun w' => w'.cell? ⟨v, 2, none⟩ = some (ptr m) ∧ w'.cell? ⟨w.heap.size, 2, none⟩ = some (.slice (some ⟨g, 0, none⟩) n c) ∧ w'.cell? ⟨g, i * 2, none⟩ = some (.string K) ∧ w'.cell? ⟨g, i * 2 + 1, none⟩ = some (.string U)) (first | exact HS5.out | exact HSd.out) (first
    | (go_at_call 16; refine HS.mono ?_; rintro en w5 ⟨rfl, hto⟩; have HB5 : Hid (Below w1.heap.size w1 w5) := HBd.out.trans (hto.below HMd.out); have HV5 : Hid (VB w5 v 2 ⟨#[]⟩ (ptr m) (.pointer none) (.pointer none)) := HVd.out.hto HMd.out hto; have HS5 : Hid (w5.cell? ⟨v, 2, none⟩ = some (ptr m) ∧ w5.cell? ⟨w.heap.size, 2, none⟩ = some (.slice (some ⟨g, 0, none⟩) n c) ∧ w5.cell? ⟨g, i * 2, none⟩ = some (.string K) ∧ w5.cell? ⟨g, i * 2 + 1, none⟩ = some (.string U)) := ⟨HV5.out.ch, HCs.out _ HB5.out⟩; obtain ⟨F5, hM5, -, -⟩ := hto; have HM5 : Hid (Hm w5 w1.heap.size m x1 E T (es.take (i + 1)) pk2 F5) := hM5; clear hM5))
   all_goals
    go_wp2
    go_roundg (gk - 1)
    case measure => omega
    case rel => exact ⟨i + 1, pk2, F5, by omega, by go_num, HV5, HM5, HB5⟩
  ·have hin : i = n := by omega
   have HE : Hid (es.take i = es) := List.take_of_length_le (by have := HL.out; omega)
   have HBw : Hid (Below w.heap.size w wr) := HB1.out.trans (HB.out.mono HB1.out.size)
   have HR : Hid (PV wr w.heap.size v (.hsh es) pk F) := by
    have h1 := HM.out
    rw [HE.out] at h1
    exact PV.of_hash HV.out (h1.lower HB1.out.size) (Nat.le_trans HB1.out.size hvl)
   go_wp2
   go_ret
   exact ⟨HBw.out, v, F, pk, rfl, HR.out⟩
set_option maxRecDepth 100000 in
set_option maxHeartbeats 4000000 in
theorem made_s (x : Nat) (e t : Int) (B : Nat) (a : Option Addr) (n c : Nat) (es : List ByteArray) (w : World) (hx : x < 18446744073709551616) (hO : OwnS w B a n c es) (hn : n ≤ 100) (hsz : ∀ s ∈ es, s.size ≤ 100) (hnd : es.Nodup) :
  Calls Tryz.prog 8 #[.agg #[.int .i64 3, .string ⟨#[]⟩, .slice none 0 0, .slice a n c], .int .u64 x, .agg #[.int .i64 e, .int .i64 t]] w fun en w' => MadeV w w' (.set es) en := by
 obtain ⟨w0, hw0⟩ : ∃ w0, w.alloc (.cells #[.int .i64 3, .string ⟨#[]⟩, .slice none 0 0, .slice a n c] 29) = w0 := ⟨_, rfl⟩
 obtain ⟨w1, hw1⟩ : ∃ w1, w0.alloc (.cells #[.int .i64 e, .int .i64 t] 28) = w1 := ⟨_, rfl⟩
 have hb0 : Below w.heap.size w w0 := by rw [← hw0]; exact alloc_below w _
 have hb1 : Below w0.heap.size w0 w1 := by rw [← hw1]; exact alloc_below w0 _
 have HB1 : Hid (Below w.heap.size w w1) := hb0.trans (hb1.mono hb0.size)
 have hlt : w.heap.size < w0.heap.size := by rw [← hw0]; exact alloc_lt w _ _
 have hlt1 : w0.heap.size < w1.heap.size := by rw [← hw1]; exact alloc_lt w0 _ _
 have hc0 : w1.cell? ⟨w.heap.size, 0, none⟩ = some (.int .i64 3) := by rw [hb1.cell (p := ⟨w.heap.size, 0, none⟩) hlt, ← hw0]; exact cell_new w _ _ 0 _ rfl
 have hc2 : w1.cell? ⟨w.heap.size, 3, none⟩ = some (.slice a n c) := by rw [hb1.cell (p := ⟨w.heap.size, 3, none⟩) hlt, ← hw0]; exact cell_new w _ _ 3 _ rfl
 have hc5 : w1.cell? ⟨w0.heap.size, 0, none⟩ = some (.int .i64 e) := by rw [← hw1]; exact cell_new w0 _ _ 0 _ rfl
 have hc6 : w1.cell? ⟨w0.heap.size, 1, none⟩ = some (.int .i64 t) := by rw [← hw1]; exact cell_new w0 _ _ 1 _ rfl
 have HC : Hid (∀ wx, Below w1.heap.size w1 wx → wx.cell? ⟨w.heap.size, 0, none⟩ = some (.int .i64 3) ∧ wx.cell? ⟨w.heap.size, 3, none⟩ = some (.slice a n c)) := fun wx hb => by
  rw [hb.cell (p := ⟨w.heap.size, 0, none⟩) (Nat.lt_trans hlt hlt1), hb.cell (p := ⟨w.heap.size, 3, none⟩) (Nat.lt_trans hlt hlt1)]; exact ⟨hc0, hc2⟩
 have HO1 : Hid (OwnS w1 B a n c es) := hO.keep (HB1.out)
 have HL : Hid (es.length = n) := hO.len
 have HSz : Hid (∀ s ∈ es, s.size ≤ 100) := hsz
 have HNd : Hid (es.Nodup) := hnd
 have HN := New_s x e t w1 hx
 clear hb0 hb1 hlt hlt1 hO hsz hnd
 go_enter Tryz.func8, Tryz.ntmps8
 go_wp2_with fail
 refine HN.mono ?_
 rintro en w2 ⟨hb, v, F0, rfl, hV⟩
 obtain ⟨m, x1, E, T, hVB, hH⟩ := hV.set
 have hvl := hV.low
 have HVB : Hid (VB w2 v 3 ⟨#[]⟩ (.pointer none) (ptr m) (.pointer none)) := hVB
 have HH : Hid (Zs.Ss w2 w1.heap.size m x1 E T [] true F0) := hH
 have HB2 : Hid (Below w1.heap.size w1 w2) := hb
 obtain ⟨d0, d2⟩ := HC.out w2 hb
 have k2 := hVB.cs
 clear hb hV hVB hH HN hc0 hc2 hc5 hc6
 go_wp2
 go_loopg [9] n (fun g iv wr => ∃ (i : Nat) (pk : Bool) (F : List Nat), i + g = n ∧ iv = .int .i64 i ∧ Hid (VB wr v 3 ⟨#[]⟩ (.pointer none) (ptr m) (.pointer none)) ∧ Hid (Zs.Ss wr w1.heap.size m x1 E T (es.take i) pk F) ∧ Hid (Below w1.heap.size w1 wr))
 case atStart => exact ⟨0, true, F0, by omega, rfl, HVB, HH, HB2⟩
 case round =>
  obtain ⟨i, pk, F, hi, rfl, HV, HM, HB⟩ := hrel
  obtain ⟨f0, f2⟩ := HC.out wr HB.out
  by_cases h8 : (i : Int) < n
  ·have hbd : Below wr.heap.size wr wr.drew := below_drewN wr 1
   have HBd := step_below HB hbd
   obtain ⟨g0, g2⟩ := HC.out wr.drew HBd.out
   obtain ⟨g, off, hg, hx1⟩ := (HO1.out.keep HBd.out).rd.cell i (by omega)
   have HKn : Hid (es.getD i ByteArray.empty ∉ es.take i) := nod_takeB HNd.out (by have := HL.out; omega)
   have HTk : Hid (es.take (i + 1) = es.take i ++ [es.getD i ByteArray.empty]) := take_snocB es i (by have := HL.out; omega)
   have HZz : Hid ((es.getD i ByteArray.empty).size ≤ 100) := by
    refine HSz.out _ ?_
    rw [List.getD_eq_getElem?_getD, List.getElem?_eq_getElem (by have := HL.out; omega)]; exact List.getElem_mem _
   have HLt : Hid ((es.take i).length < 1000000) := by show _ < _; rw [List.length_take]; have := HL.out; omega
   obtain ⟨K, hp⟩ : ∃ p, es.getD i ByteArray.empty = p := ⟨_, rfl⟩
   rw [hp] at hx1 HKn HTk HZz
   have HS := Zs.AddS w1.heap.size m x1 E T (es.take i) pk F K wr.drew (HM.out.keep hbd) (by have := HZz.out; omega) HLt.out
   rw [Zs.addM_no HKn.out, ← HTk.out] at HS
   generalize Zs.pkA (es.take i) pk E T K = pk2 at HS
   subst hg
   have HVd : Hid (VB wr.drew v 3 ⟨#[]⟩ (.pointer none) (ptr m) (.pointer none)) := HV.out.keep hbd
   have HMd : Hid (Zs.Ss wr.drew w1.heap.size m x1 E T (es.take i) pk F) := HM.out.keep hbd
   have HCs : Hid (∀ wx, Below w1.heap.size w1 wx → wx.cell? ⟨w.heap.size, 3, none⟩ = some (.slice (some ⟨g, off, none⟩) n c) ∧ wx.cell? ⟨g, off + i, none⟩ = some (.string K)) := fun wx hb => by
    obtain ⟨g', off', hg', q1⟩ := (HO1.out.keep hb).rd.cell i (by omega)
    obtain ⟨rfl, rfl⟩ : g = g' ∧ off = off' := by injection hg' with e1; injection e1 with e2 e3; exact ⟨e2, e3⟩
    rw [hp] at q1
    exact ⟨(HC.out wx hb).2, q1⟩
   have HSd : Hid (wr.drew.cell? ⟨v, 3, none⟩ = some (ptr m) ∧ wr.drew.cell? ⟨w.heap.size, 3, none⟩ = some (.slice (some ⟨g, off, none⟩) n c) ∧ wr.drew.cell? ⟨g, off + i, none⟩ = some (.string K)) := ⟨HVd.out.cs, HCs.out _ HBd.out⟩
   clear hbd hp hx1 g0 g2
   go_upto_region 16 with fail
   go_region_held3 (fun w' => w'.cell? ⟨v, 3, none⟩ = some (ptr m) ∧ w'.cell? ⟨w.heap.size, 3, none⟩ = some (.slice (some ⟨g, off, none⟩) n c) ∧ w'.cell? ⟨g, off + i, none⟩ = some (.string K)) (first | exact HS5.out | exact HSd.out) (first
    | (go_at_call 17; refine HS.mono ?_; rintro en w5 ⟨rfl, hto⟩; have HB5 : Hid (Below w1.heap.size w1 w5) := HBd.out.trans (hto.below HMd.out); have HV5 : Hid (VB w5 v 3 ⟨#[]⟩ (.pointer none) (ptr m) (.pointer none)) := HVd.out.sto HMd.out hto; have HS5 : Hid (w5.cell? ⟨v, 3, none⟩ = some (ptr m) ∧ w5.cell? ⟨w.heap.size, 3, none⟩ = some (.slice (some ⟨g, off, none⟩) n c) ∧ w5.cell? ⟨g, off + i, none⟩ = some (.string K)) := ⟨HV5.out.cs, HCs.out _ HB5.out⟩; obtain ⟨F5, hM5, -, -⟩ := hto; have HM5 : Hid (Zs.Ss w5 w1.heap.size m x1 E T (es.take (i + 1)) pk2 F5) := hM5; clear hM5))
   all_goals
    go_wp2
    go_roundg (gk - 1)
    case measure => omega
    case rel => exact ⟨i + 1, pk2, F5, by omega, by go_num, HV5, HM5, HB5⟩
  ·have hin : i = n := by omega
   have HE : Hid (es.take i = es) := List.take_of_length_le (by have := HL.out; omega)
   have HBw : Hid (Below w.heap.size w wr) := HB1.out.trans (HB.out.mono HB1.out.size)
   have HR : Hid (PV wr w.heap.size v (.set es) pk F) := by
    have h1 := HM.out
    rw [HE.out] at h1
    exact PV.of_set HV.out (h1.lower HB1.out.size) (Nat.le_trans HB1.out.size hvl)
   go_wp2
   go_ret
   exact ⟨HBw.out, v, F, pk, rfl, HR.out⟩
set_option maxRecDepth 100000 in
set_option maxHeartbeats 4000000 in
theorem made_l (x : Nat) (e t : Int) (B : Nat) (a : Option Addr) (n c : Nat) (es : List ByteArray) (w : World) (hO : OwnS w B a n c es) (hn : n ≤ 100) (hsz : ∀ s ∈ es, s.size ≤ 100) :
  Calls Tryz.prog 8 #[.agg #[.int .i64 4, .string ⟨#[]⟩, .slice none 0 0, .slice a n c], .int .u64 x, .agg #[.int .i64 e, .int .i64 t]] w fun en w' => MadeV w w' (.lst es) en := by
 obtain ⟨w0, hw0⟩ : ∃ w0, w.alloc (.cells #[.int .i64 4, .string ⟨#[]⟩, .slice none 0 0, .slice a n c] 29) = w0 := ⟨_, rfl⟩
 obtain ⟨w1, hw1⟩ : ∃ w1, w0.alloc (.cells #[.int .i64 e, .int .i64 t] 28) = w1 := ⟨_, rfl⟩
 have hb0 : Below w.heap.size w w0 := by rw [← hw0]; exact alloc_below w _
 have hb1 : Below w0.heap.size w0 w1 := by rw [← hw1]; exact alloc_below w0 _
 have HB1 : Hid (Below w.heap.size w w1) := hb0.trans (hb1.mono hb0.size)
 have hlt : w.heap.size < w0.heap.size := by rw [← hw0]; exact alloc_lt w _ _
 have hlt1 : w0.heap.size < w1.heap.size := by rw [← hw1]; exact alloc_lt w0 _ _
 have hc0 : w1.cell? ⟨w.heap.size, 0, none⟩ = some (.int .i64 4) := by rw [hb1.cell (p := ⟨w.heap.size, 0, none⟩) hlt, ← hw0]; exact cell_new w _ _ 0 _ rfl
 have hc2 : w1.cell? ⟨w.heap.size, 3, none⟩ = some (.slice a n c) := by rw [hb1.cell (p := ⟨w.heap.size, 3, none⟩) hlt, ← hw0]; exact cell_new w _ _ 3 _ rfl
 have hc5 : w1.cell? ⟨w0.heap.size, 0, none⟩ = some (.int .i64 e) := by rw [← hw1]; exact cell_new w0 _ _ 0 _ rfl
 have hc6 : w1.cell? ⟨w0.heap.size, 1, none⟩ = some (.int .i64 t) := by rw [← hw1]; exact cell_new w0 _ _ 1 _ rfl
 have HC : Hid (∀ wx, Below w1.heap.size w1 wx → wx.cell? ⟨w.heap.size, 0, none⟩ = some (.int .i64 4) ∧ wx.cell? ⟨w.heap.size, 3, none⟩ = some (.slice a n c)) := fun wx hb => by
  rw [hb.cell (p := ⟨w.heap.size, 0, none⟩) (Nat.lt_trans hlt hlt1), hb.cell (p := ⟨w.heap.size, 3, none⟩) (Nat.lt_trans hlt hlt1)]; exact ⟨hc0, hc2⟩
 have HO1 : Hid (OwnS w1 B a n c es) := hO.keep (HB1.out)
 have HL : Hid (es.length = n) := hO.len
 have HSz : Hid (Fit es) := fun s hs => Nat.le_trans (hsz s hs) (by decide)
 have HN := New_l x e t w1
 clear hb0 hb1 hlt hlt1 hO hsz
 go_enter Tryz.func8, Tryz.ntmps8
 go_wp2_with fail
 refine HN.mono ?_
 rintro en w2 ⟨hb, v, F0, rfl, hV⟩
 obtain ⟨m, most, q, hVB, hH, hone⟩ := hV.list
 have hvl := hV.low
 have HB2 : Hid (Below w1.heap.size w1 w2) := hb
 obtain ⟨d0, d2⟩ := HC.out w2 hb
 have k2 := hVB.cl
 have hbd : Below w2.heap.size w2 w2.drew := below_drewN w2 1
 have HBd := step_below HB2 hbd
 have HVd : Hid (VB w2.drew v 4 ⟨#[]⟩ (.pointer none) (.pointer none) (ptr m)) := hVB.keep hbd
 have hMd := hH.keep hbd
 have HMd : Hid (QV w2.drew w1.heap.size m most [] q F0) := hMd
 have HS := VRight w2.drew w1.heap.size m most q [] F0 hMd a n c es (hMd.far (HO1.out.keep HBd.out)) HSz.out (by show 0 + n ≤ 1000000; omega)
 have HSd : Hid (w2.drew.cell? ⟨v, 4, none⟩ = some (ptr m) ∧ w2.drew.cell? ⟨w.heap.size, 3, none⟩ = some (.slice a n c)) := ⟨HVd.out.cl, (HC.out _ HBd.out).2⟩
 clear hone hb hV hVB hH HN hc0 hc2 hc5 hc6 hbd hMd
 go_upto_region 18 with fail
 go_region_held3 (fun w' => w'.cell? ⟨v, 4, none⟩ = some (ptr m) ∧ w'.cell? ⟨w.heap.size, 3, none⟩ = some (.slice a n c)) (first | exact HS5.out | exact HSd.out) (first
  | (go_at_call 18; refine HS.mono ?_; rintro en w5 ⟨rfl, hto⟩; have HB5 : Hid (Below w1.heap.size w1 w5) := HBd.out.trans (VDoes.below HMd.out hto); have HV5 : Hid (VB w5 v 4 ⟨#[]⟩ (.pointer none) (.pointer none) (ptr m)) := HVd.out.qto HMd.out hto; have HS5 : Hid (w5.cell? ⟨v, 4, none⟩ = some (ptr m) ∧ w5.cell? ⟨w.heap.size, 3, none⟩ = some (.slice a n c)) := ⟨HV5.out.cl, (HC.out _ HB5.out).2⟩; obtain ⟨q5, F5, hM5, -⟩ := hto; have HM5 : Hid (QV w5 w1.heap.size m most es q5 F5) := hM5; clear hM5))
 have HBw : Hid (Below w.heap.size w w5) := HB1.out.trans (HB5.out.mono HB1.out.size)
 have HR : Hid (PV w5 w.heap.size v (.lst es) (decide (q5 ≤ 1)) F5) := PV.of_list HV5.out (HM5.out.down HB1.out.size) (Nat.le_trans HB1.out.size hvl)
 go_wp2
 go_ret
 exact ⟨HBw.out, v, F5, _, rfl, HR.out⟩
theorem made_any (x : Nat) (e t : Int) (B : Nat) (d : VD) (va : Value) (w : World) (hx : x < 18446744073709551616) (hv : Vl w B d va) (hok : d.ok) (hon : d.once) :
  Calls Tryz.prog 8 #[va, .int .u64 x, .agg #[.int .i64 e, .int .i64 t]] w fun en w' => MadeV w w' d en := by
 cases d with
 | txt s => rw [show va = _ from hv]; exact made_txt x e t s w
 | hsh es => obtain ⟨a, n, c, rfl, hO⟩ := hv; exact made_h x e t B a n c es w hx hO (by rw [← OwnQ.len hO]; exact hok.1) hok.2 hon
 | set l => obtain ⟨a, n, c, rfl, hO⟩ := hv; exact made_s x e t B a n c l w hx hO (by rw [← hO.len]; exact hok.1) hok.2 hon
 | lst l => obtain ⟨a, n, c, rfl, hO⟩ := hv; exact made_l x e t B a n c l w hO (by rw [← hO.len]; exact hok.1) hok.2
end Go.Proofs.YtikimcbalkhooaaGreat
