/- Texts that the others stand on. -/
import Derived.Test.YtikimcbalkhooaaGreatJ21
namespace Go.Proofs.YtikimcbalkhooaaGreat
open Go.RowKit Go.PlainAid
open Dk (En keysOf hasK putE ecells)
theorem getD_inS {l : List ByteArray} {i : Nat} (h : i < l.length) : l.getD i ByteArray.empty ∈ l := by
 rw [List.getD_eq_getElem?_getD, List.getElem?_eq_getElem h]; exact List.getElem_mem _
theorem getD_inE {l : List En} {i : Nat} (h : i < l.length) : l.getD i (⟨#[]⟩, ⟨#[]⟩) ∈ l := by
 rw [List.getD_eq_getElem?_getD, List.getElem?_eq_getElem h]; exact List.getElem_mem _
theorem rAt_no (B : Nat) (a : Option Addr) (n c : Nat) (l : List ByteArray) (f : ByteArray) (w : World) (h : OwnS w B a n c l) (hn : n ≤ 1000000) (hf : f ∉ l) :
  Calls Tryz.prog 28 #[.slice a n c, .string f] w fun e w' => e = .returned (.int .i64 (-1)) ∧ w' = w := by
 have HM : Hid (OwnS w B a n c l) := h
 have HF : Hid (f ∉ l) := hf
 clear h hf
 go_enter Tryz.func28, Tryz.ntmps28
 go_wp2
 go_loopg [5] n (fun g iv wr => w = wr ∧ ∃ i : Nat, i + g = n ∧ iv = .int .i64 i)
 case atStart => exact ⟨rfl, 0, by omega, rfl⟩
 case round =>
  obtain ⟨rfl, i, hi, rfl⟩ := hrel
  by_cases h8 : (i : Int) < n
  ·obtain ⟨b, off, hg, hk⟩ := HM.out.rd.cell i (by omega)
   have hne : ((l.getD i ByteArray.empty).toList == f.toList) = false := by
    rw [str_beq]
    refine decide_eq_false fun e => ?_
    exact HF.out (e ▸ getD_inS (by have := HM.out.len; omega))
   generalize l.getD i ByteArray.empty = k at hk hne
   subst hg
   go_wp2
   go_roundg (gk - 1)
   case measure => omega
   case rel => exact ⟨rfl, i + 1, by omega, by go_num⟩
  ·go_wp2
   go_ret
   exact ⟨rfl, rfl⟩
theorem rAt_yes (B : Nat) (a : Option Addr) (n c : Nat) (b r : List ByteArray) (f : ByteArray) (w : World) (h : OwnS w B a n c (b ++ f :: r)) (hn : n ≤ 1000000) (hf : f ∉ b) :
  Calls Tryz.prog 28 #[.slice a n c, .string f] w fun e w' => e = .returned (.int .i64 (b.length : Nat)) ∧ w' = w := by
 have HM : Hid (OwnS w B a n c (b ++ f :: r)) := h
 have HF : Hid (f ∉ b) := hf
 have hlen : b.length < n := by have := h.len; rw [List.length_append, List.length_cons] at this; omega
 obtain ⟨L, hL⟩ : ∃ L, b.length = L := ⟨_, rfl⟩
 have HL : Hid (b.length = L) := hL
 rw [hL] at hlen ⊢
 clear h hf hL
 go_enter Tryz.func28, Tryz.ntmps28
 go_wp2
 go_loopg [5] L (fun g iv wr => w = wr ∧ ∃ i : Nat, i + g = L ∧ iv = .int .i64 i)
 case atStart => exact ⟨rfl, 0, by omega, rfl⟩
 case round =>
  obtain ⟨rfl, i, hi, rfl⟩ := hrel
  have h8 : (i : Int) < n := by omega
  obtain ⟨bb, off, hg, hk⟩ := HM.out.rd.cell i (by omega)
  by_cases h9 : i < L
  ·have hne : (((b ++ f :: r).getD i ByteArray.empty).toList == f.toList) = false := by
    rw [str_beq]
    refine decide_eq_false fun e => ?_
    have hi2 : i < b.length := by have := HL.out; omega
    rw [List.getD_eq_getElem?_getD, List.getElem?_append_left hi2, List.getElem?_eq_getElem hi2] at e
    exact HF.out (e ▸ List.getElem_mem hi2)
   generalize (b ++ f :: r).getD i ByteArray.empty = k at hk hne
   subst hg
   go_wp2
   go_roundg (gk - 1)
   case measure => omega
   case rel => exact ⟨rfl, i + 1, by omega, by go_num⟩
  ·have hiL : i = L := by omega
   subst hiL
   have he : (b ++ f :: r).getD i ByteArray.empty = f := by
    have := HL.out
    rw [List.getD_eq_getElem?_getD, List.getElem?_append_right (by omega), show i - b.length = 0 by omega]
    rfl
   rw [he] at hk
   clear he
   subst hg
   go_wp2
   go_ret
   exact ⟨rfl, rfl⟩
theorem Field_no (B : Nat) (a : Option Addr) (n c : Nat) (K : Int) (t : ByteArray) (sl : Value) (l : List En) (f : ByteArray) (w : World) (h : OwnQ w B a n c l) (hn : n ≤ 100) (hf : f ∉ keysOf l) :
  Calls Tryz.prog 27 #[.agg #[.int .i64 K, .string t, .slice a n c, sl], .string f] w fun e w' => e = .returned (.int .i64 (-1)) ∧ Below w.heap.size w w' := by
 obtain ⟨w0, hw0⟩ : ∃ w0, w.alloc (.cells #[.int .i64 K, .string t, .slice a n c, sl] 29) = w0 := ⟨_, rfl⟩
 have hb0 : Below w.heap.size w w0 := by rw [← hw0]; exact alloc_below w _
 have HB0 : Hid (Below w.heap.size w w0) := hb0
 have hc2 : w0.cell? ⟨w.heap.size, 2, none⟩ = some (.slice a n c) := by rw [← hw0]; exact cell_new w _ _ 2 _ rfl
 have HM : Hid (OwnQ w0 B a n c l) := h.keep hb0
 have HF : Hid (f ∉ keysOf l) := hf
 have HN : Hid (l.length = n) := OwnQ.len h
 clear h hf hb0
 go_enter Tryz.func27, Tryz.ntmps27
 go_wp2
 go_loopg [5] n (fun g iv wr => w0 = wr ∧ ∃ i : Nat, i + g = n ∧ iv = .int .i64 i)
 case atStart => exact ⟨rfl, 0, by omega, rfl⟩
 case round =>
  obtain ⟨rfl, i, hi, rfl⟩ := hrel
  by_cases h8 : (i : Int) < n
  ·obtain ⟨g, hg, hk, -⟩ := OwnQ.cell HM.out (j := i) (by omega)
   have hne : ((l.getD i (⟨#[]⟩, ⟨#[]⟩)).1.toList == f.toList) = false := by
    rw [str_beq]
    refine decide_eq_false fun e => ?_
    exact HF.out (List.mem_map.2 ⟨_, getD_inE (by have := HN.out; omega), e⟩)
   generalize (l.getD i (⟨#[]⟩, ⟨#[]⟩)).1 = k at hk hne
   subst hg
   have hn2 : i * 2 ≤ 200 := by omega
   go_wp2
   go_roundg (gk - 1)
   case measure => omega
   case rel => exact ⟨rfl, i + 1, by omega, by go_num⟩
  ·go_wp2
   go_ret
   exact ⟨rfl, HB0.out⟩
theorem Field_yes (B : Nat) (a : Option Addr) (n c : Nat) (K : Int) (t : ByteArray) (sl : Value) (b r : List En) (f u : ByteArray) (w : World) (h : OwnQ w B a n c (b ++ (f, u) :: r)) (hn : n ≤ 100) (hf : f ∉ keysOf b) :
  Calls Tryz.prog 27 #[.agg #[.int .i64 K, .string t, .slice a n c, sl], .string f] w fun e w' => e = .returned (.int .i64 (b.length : Nat)) ∧ Below w.heap.size w w' := by
 obtain ⟨w0, hw0⟩ : ∃ w0, w.alloc (.cells #[.int .i64 K, .string t, .slice a n c, sl] 29) = w0 := ⟨_, rfl⟩
 have hb0 : Below w.heap.size w w0 := by rw [← hw0]; exact alloc_below w _
 have HB0 : Hid (Below w.heap.size w w0) := hb0
 have hc2 : w0.cell? ⟨w.heap.size, 2, none⟩ = some (.slice a n c) := by rw [← hw0]; exact cell_new w _ _ 2 _ rfl
 have HM : Hid (OwnQ w0 B a n c (b ++ (f, u) :: r)) := h.keep hb0
 have HF : Hid (f ∉ keysOf b) := hf
 have hlen : b.length < n := by have := OwnQ.len h; rw [List.length_append, List.length_cons] at this; omega
 obtain ⟨L, hL⟩ : ∃ L, b.length = L := ⟨_, rfl⟩
 have HL : Hid (b.length = L) := hL
 rw [hL] at hlen ⊢
 clear h hf hL hb0
 go_enter Tryz.func27, Tryz.ntmps27
 go_wp2
 go_loopg [5] L (fun g iv wr => w0 = wr ∧ ∃ i : Nat, i + g = L ∧ iv = .int .i64 i)
 case atStart => exact ⟨rfl, 0, by omega, rfl⟩
 case round =>
  obtain ⟨rfl, i, hi, rfl⟩ := hrel
  have h8 : (i : Int) < n := by omega
  obtain ⟨g, hg, hk, -⟩ := OwnQ.cell HM.out (j := i) (by omega)
  have hn2 : i * 2 ≤ 200 := by omega
  by_cases h9 : i < L
  ·have hne : (((b ++ (f, u) :: r).getD i (⟨#[]⟩, ⟨#[]⟩)).1.toList == f.toList) = false := by
    rw [str_beq]
    refine decide_eq_false fun e => ?_
    have hi2 : i < b.length := by have := HL.out; omega
    rw [List.getD_eq_getElem?_getD, List.getElem?_append_left hi2, List.getElem?_eq_getElem hi2] at e
    exact HF.out (List.mem_map.2 ⟨_, List.getElem_mem hi2, e⟩)
   generalize ((b ++ (f, u) :: r).getD i (⟨#[]⟩, ⟨#[]⟩)).1 = k at hk hne
   subst hg
   go_wp2
   go_roundg (gk - 1)
   case measure => omega
   case rel => exact ⟨rfl, i + 1, by omega, by go_num⟩
  ·have hiL : i = L := by omega
   subst hiL
   have he : ((b ++ (f, u) :: r).getD i (⟨#[]⟩, ⟨#[]⟩)).1 = f := by
    have := HL.out
    rw [List.getD_eq_getElem?_getD, List.getElem?_append_right (by omega), show i - b.length = 0 by omega]
    rfl
   rw [he] at hk
   clear he
   subst hg
   go_wp2
   go_ret
   exact ⟨rfl, HB0.out⟩
structure RdE (w : World) (a : Option Addr) (n : Nat) (es : List En) : Prop where
 len : es.length = n
 max : n ≤ maxLen
 cell : ∀ j, j < n → ∃ b off, a = some ⟨b, off, none⟩ ∧ w.cell? ⟨b, off + j * 2, none⟩ = some (.string (es.getD j (⟨#[]⟩, ⟨#[]⟩)).1) ∧ w.cell? ⟨b, off + j * 2 + 1, none⟩ = some (.string (es.getD j (⟨#[]⟩, ⟨#[]⟩)).2)
theorem RdE.keep {w wn : World} {a : Option Addr} {n : Nat} {es : List En} (h : RdE w a n es) (hb : Below w.heap.size w wn) : RdE wn a n es :=
 ⟨h.len, h.max, fun j hj => by
  obtain ⟨b, off, e, h1, h2⟩ := h.cell j hj
  refine ⟨b, off, e, ?_, ?_⟩
  ·rw [hb.cell (World.block_lt_of_cell? _ _ h1)]; exact h1
  ·rw [hb.cell (World.block_lt_of_cell? _ _ h2)]; exact h2⟩
def Drw (w : World) (dv : Value) : Prop := ∃ k t pa pn pc es la ln lc ls, dv = .agg #[.int .i64 k, .string t, .slice pa pn pc, .slice la ln lc] ∧ RdE w pa pn es ∧ RdS w la ln ls
def VD.few : VD → Prop
 | .txt t => t.size ≤ 60
 | .hsh es => es.length ≤ 12 ∧ Sz 20 es
 | .set l => l.length ≤ 12 ∧ ∀ s ∈ l, s.size ≤ 20
 | .lst l => l.length ≤ 12 ∧ ∀ s ∈ l, s.size ≤ 20
theorem VD.few.ok {d : VD} (h : d.few) : d.ok := by
 cases d with
 | txt t => exact Nat.le_trans (show t.size ≤ 60 from h) (by decide)
 | hsh es => exact ⟨Nat.le_trans h.1 (by decide), h.2.mono (by decide)⟩
 | set l => exact ⟨Nat.le_trans h.1 (by decide), fun s hs => Nat.le_trans (h.2 s hs) (by decide)⟩
 | lst l => exact ⟨Nat.le_trans h.1 (by decide), fun s hs => Nat.le_trans (h.2 s hs) (by decide)⟩
def PlainV (w w' : World) (e : Ending) : Prop := Below w.heap.size w w' ∧ ∃ va d, e = .returned va ∧ Vl w' w.heap.size d va ∧ d.few ∧ d.once
structure PX (w0 wr : World) (B b1 b2 b3 : Nat) (dc : Array Value) (k : Nat) (t : ByteArray) (p l : Value) : Prop where
 bel : Below w0.heap.size w0 wr
 siz : B ≤ wr.heap.size
 d : wr.heap[b1]? = some (.cells dc 25 (0, 0))
 r : wr.heap[b2]? = some (.cells #[.int .i64 0, .string ⟨#[]⟩, .slice none 0 0, .slice none 0 0] 29 (0, 0))
 v : wr.heap[b3]? = some (.cells #[.int .i64 (k : Nat), .string t, p, l] 29 (0, 0))
 o1 : w0.heap.size ≤ b1
 o2 : b1 < b2
 o3 : b2 < b3
 o4 : b3 < B
theorem PX.keep {w0 wr wn : World} {B b1 b2 b3 k : Nat} {dc : Array Value} {t : ByteArray} {p l : Value} (h : PX w0 wr B b1 b2 b3 dc k t p l) (hb : Below B wr wn) : PX w0 wn B b1 b2 b3 dc k t p l := by
 have o1 := h.o1; have o2 := h.o2; have o3 := h.o3; have o4 := h.o4
 refine ⟨h.bel.trans (hb.mono (by omega)), Nat.le_trans h.siz hb.size, ?_, ?_, ?_, o1, o2, o3, o4⟩
 ·rw [hb.block b1 (by omega)]; exact h.d
 ·rw [hb.block b2 (by omega)]; exact h.r
 ·rw [hb.block b3 (by omega)]; exact h.v
theorem PX.set {w0 wr : World} {B b1 b2 b3 k i : Nat} {dc : Array Value} {t : ByteArray} {p l u : Value} (h : PX w0 wr B b1 b2 b3 dc k t p l) {k' : Nat} {t' : ByteArray} {p' l' : Value} (he : (#[.int .i64 (k : Nat), .string t, p, l] : Array Value).setIfInBounds i u = #[.int .i64 (k' : Nat), .string t', p', l']) : PX w0 (wr.setCell ⟨b3, i, none⟩ u) B b1 b2 b3 dc k' t' p' l' := by
 have o1 := h.o1; have o2 := h.o2; have o3 := h.o3; have o4 := h.o4
 refine ⟨h.bel.trans ((Stay.set (w := wr) (q := b3) (o := i) (v := u)).below (fun j hj => by simp only [List.mem_singleton] at hj; omega) h.bel.size), ?_, ?_, ?_, ?_, o1, o2, o3, o4⟩
 ·exact Nat.le_trans h.siz (Stay.set (w := wr) (q := b3) (o := i) (v := u)).size
 ·rw [Below.heap_setCell _ _ _ _ (by simp; omega)]; exact h.d
 ·rw [Below.heap_setCell _ _ _ _ (by simp; omega)]; exact h.r
 ·rw [Dk.heap_set h.v, he]
theorem PX.cv {w0 wr : World} {B b1 b2 b3 k : Nat} {dc : Array Value} {t : ByteArray} {p l : Value} (h : PX w0 wr B b1 b2 b3 dc k t p l) : wr.cell? ⟨b3, 0, none⟩ = some (.int .i64 (k : Nat)) ∧ wr.cell? ⟨b3, 1, none⟩ = some (.string t) ∧ wr.cell? ⟨b3, 2, none⟩ = some p ∧ wr.cell? ⟨b3, 3, none⟩ = some l ∧ (∀ i, wr.frozen? ⟨b3, i, none⟩ = false) := by
 simp [World.cell?, World.frozen?, h.v]
theorem PX.cr {w0 wr : World} {B b1 b2 b3 k : Nat} {dc : Array Value} {t : ByteArray} {p l : Value} (h : PX w0 wr B b1 b2 b3 dc k t p l) : wr.cell? ⟨b2, 0, none⟩ = some (.int .i64 0) ∧ wr.cell? ⟨b2, 1, none⟩ = some (.string ⟨#[]⟩) ∧ wr.cell? ⟨b2, 2, none⟩ = some (.slice none 0 0) ∧ wr.cell? ⟨b2, 3, none⟩ = some (.slice none 0 0) ∧ (∀ i, wr.frozen? ⟨b2, i, none⟩ = false) := by
 simp [World.cell?, World.frozen?, h.r]
theorem PX.cd {w0 wr : World} {B b1 b2 b3 k : Nat} {c0 c1 c2 c3 : Value} {t : ByteArray} {p l : Value} (h : PX w0 wr B b1 b2 b3 #[c0, c1, c2, c3] k t p l) : wr.cell? ⟨b1, 0, none⟩ = some c0 ∧ wr.cell? ⟨b1, 1, none⟩ = some c1 ∧ wr.cell? ⟨b1, 2, none⟩ = some c2 ∧ wr.cell? ⟨b1, 3, none⟩ = some c3 := by
 simp [World.cell?, h.d]
theorem stay_last (wr : World) (b2 : Nat) (v0 v1 v2 v3 : Value) :
  Stay wr ((((wr.setCell ⟨b2, 0, none⟩ v0).setCell ⟨b2, 1, none⟩ v1).setCell ⟨b2, 2, none⟩ v2).setCell ⟨b2, 3, none⟩ v3) [b2] :=
 ((Stay.set.trans Stay.set (fun _ h => .inl h)).trans Stay.set (fun _ h => .inl h)).trans Stay.set (fun _ h => .inl h)
theorem heap_last {wr : World} {b2 : Nat} {c0 c1 c2 c3 : Value} {ty : TypeId} (h : wr.heap[b2]? = some (.cells #[c0, c1, c2, c3] ty (0, 0))) (v0 v1 v2 v3 : Value) :
  ((((wr.setCell ⟨b2, 0, none⟩ v0).setCell ⟨b2, 1, none⟩ v1).setCell ⟨b2, 2, none⟩ v2).setCell ⟨b2, 3, none⟩ v3).heap[b2]? = some (.cells #[v0, v1, v2, v3] ty (0, 0)) := by
 rw [Dk.heap_set (Dk.heap_set (Dk.heap_set (Dk.heap_set h v0) v1) v2) v3]
 rfl
theorem Tryz.infoVal : (Tryz.prog.info? 29).map (·.size) = some 4 := by kernel_rfl
set_option maxRecDepth 100000 in
set_option maxHeartbeats 4000000 in
theorem plain_t (w : World) (k : Int) (t : ByteArray) (P L : Value) (hk : wi k 1048576 % 4 = 0) :
  Calls Tryz.prog 7 #[.agg #[.int .i64 k, .string t, P, L]] w fun e w' => PlainV w w' e := by
 have HW := fun w => Within_wi k 1048576 w (by decide)
 obtain ⟨z, hz⟩ : ∃ z, wi k 1048576 = z := ⟨_, rfl⟩
 have hz2 := wi_le k 1048576
 rw [hz] at HW hk hz2
 have hz3 : (z : Int).tmod 4 = 0 := by rw [Int.tmod_eq_emod_of_nonneg (by omega)]; omega
 have HC := fun w => Cut_any t 60 w (by decide)
 have hk9 : (cutB t 60).size ≤ 60 := by have := size_cutB t 60 (by decide); omega
 generalize cutB t 60 = u at HC hk9
 have HU : Hid (u.size ≤ 60) := hk9
 clear hz hk hk9
 obtain ⟨w0, hw0⟩ : ∃ w0, w.alloc (.cells #[.int .i64 k, .string t, P, L] 25) = w0 := ⟨_, rfl⟩
 obtain ⟨w1, hw1⟩ : ∃ w1, w0.alloc (.cells #[.int .i64 0, .string ⟨#[]⟩, .slice none 0 0, .slice none 0 0] 29) = w1 := ⟨_, rfl⟩
 obtain ⟨w2, hw2⟩ : ∃ w2, w1.alloc (.cells #[.int .i64 1, .string ⟨#[]⟩, .slice none 0 0, .slice none 0 0] 29) = w2 := ⟨_, rfl⟩
 have hb0 : Below w.heap.size w w0 := by rw [← hw0]; exact alloc_below w _
 have hb1 : Below w0.heap.size w0 w1 := by rw [← hw1]; exact alloc_below w0 _
 have hb2 : Below w1.heap.size w1 w2 := by rw [← hw2]; exact alloc_below w1 _
 have hl0 : w.heap.size < w0.heap.size := by rw [← hw0]; exact alloc_lt w _ _
 have hl1 : w0.heap.size < w1.heap.size := by rw [← hw1]; exact alloc_lt w0 _ _
 have hl2 : w1.heap.size < w2.heap.size := by rw [← hw2]; exact alloc_lt w1 _ _
 have hs1 : w0.heap.size + 1 = w1.heap.size := by rw [← hw1]; exact (World.size_alloc _ _).symm
 have HP : Hid (PX w w2 w2.heap.size w.heap.size w0.heap.size w1.heap.size #[.int .i64 k, .string t, P, L] 1 ⟨#[]⟩ (.slice none 0 0) (.slice none 0 0)) := by
  refine ⟨hb0.trans ((hb1.trans (hb2.mono hb1.size)).mono hb0.size), Nat.le_refl _, ?_, ?_, ?_, Nat.le_refl _, hl0, hl1, hl2⟩
  ·rw [hb2.block _ (by omega), hb1.block _ hl0, ← hw0]; exact heap_alloc_new w _
  ·rw [hb2.block _ hl1, ← hw1]; exact heap_alloc_new w0 _
  ·rw [← hw2]; exact heap_alloc_new w1 _
 have hc0 : w0.cell? ⟨w.heap.size, 0, none⟩ = some (.int .i64 k) := by rw [← hw0]; exact cell_new w _ _ 0 _ rfl
 have hc0' : w1.cell? ⟨w.heap.size, 0, none⟩ = some (.int .i64 k) := by rw [hb1.cell (p := ⟨w.heap.size, 0, none⟩) hl0]; exact hc0
 have hc1' : w1.cell? ⟨w.heap.size, 1, none⟩ = some (.string t) := by rw [hb1.cell (p := ⟨w.heap.size, 1, none⟩) hl0, ← hw0]; exact cell_new w _ _ 1 _ rfl
 obtain ⟨v0, v1, v2, v3, vf⟩ := HP.out.cv
 have HW2 : Hid (w1.alloc (.cells #[.int .i64 1, .string ⟨#[]⟩, .slice none 0 0, .slice none 0 0] 29) = w2) := hw2
 obtain ⟨w3, hw3⟩ : ∃ w3, w2.setCell ⟨w1.heap.size, 1, none⟩ (.string u) = w3 := ⟨_, rfl⟩
 have HP3 : Hid (PX w w3 w2.heap.size w.heap.size w0.heap.size w1.heap.size #[.int .i64 k, .string t, P, L] 1 u (.slice none 0 0) (.slice none 0 0)) := by rw [← hw3]; exact HP.out.set (i := 1) rfl
 obtain ⟨x0, x1, x2, x3, xf⟩ := HP3.out.cv
 obtain ⟨r0, r1, r2, r3, rf⟩ := HP3.out.cr
 have HSt := stay_last w3 w0.heap.size (.int .i64 1) (.string u) (.slice none 0 0) (.slice none 0 0)
 have HEnd : Hid (Below w.heap.size w ((((w3.setCell ⟨w0.heap.size, 0, none⟩ (.int .i64 1)).setCell ⟨w0.heap.size, 1, none⟩ (.string u)).setCell ⟨w0.heap.size, 2, none⟩ (.slice none 0 0)).setCell ⟨w0.heap.size, 3, none⟩ (.slice none 0 0))) := HP3.out.bel.trans (HSt.below (fun j hj => by simp only [List.mem_singleton] at hj; omega) HP3.out.bel.size)
 have hl3 : w.heap.size < w1.heap.size := by omega
 clear hb0 hb1 hb2 hl2 HSt hw2
 go_enter Tryz.func7, Tryz.ntmps7
 go_wp2_with fail
 refine (HW _).mono ?_
 rintro e w1 ⟨rfl, rfl⟩
 go_wp2_with fail
 rw [HW2.out]
 refine (HC _).mono ?_
 rintro e w2 ⟨rfl, rfl⟩
 go_wp2
 exact bodyPost_ret (v := .agg #[.int .i64 1, .string u, .slice none 0 0, .slice none 0 0]) (results_cell_row rfl _ _ w0.heap.size 29 _ (0, 0) _ rfl (heap_last HP3.out.r _ _ _ _) Tryz.underlying29 rfl Tryz.infoVal) rfl ⟨HEnd.out, _, .txt u, rfl, rfl, HU.out, trivial⟩
theorem ecells_setV (l r : List En) (k u v : ByteArray) : (ecells (l ++ (k, u) :: r)).set (l.length * 2 + 1) (.string v) = ecells (l ++ (k, v) :: r) := by
 rw [Dk.ecells_append, Dk.ecells_append, List.set_append, if_neg (by rw [Dk.ecells_len]; omega), Dk.ecells_len, show l.length * 2 + 1 - l.length * 2 = 1 by omega]
 rfl
theorem OwnQ.setV {w : World} {B : Nat} {a : Option Addr} {n c : Nat} {l r : List En} {k u : ByteArray} (h : OwnQ w B a n c (l ++ (k, u) :: r)) (v : ByteArray) :
  ∃ g, a = some ⟨g, 0, none⟩ ∧ B ≤ g ∧ (∃ u, w.cell? ⟨g, l.length * 2 + 1, none⟩ = some u) ∧ w.frozen? ⟨g, l.length * 2 + 1, none⟩ = false ∧ OwnQ (w.setCell ⟨g, l.length * 2 + 1, none⟩ (.string v)) B a n c (l ++ (k, v) :: r) := by
 have hlen := OwnQ.len h
 obtain ⟨g0, ha0, -, hc0⟩ := OwnQ.cell h (j := l.length) (by rw [← hlen, List.length_append, List.length_cons]; omega)
 rcases h.2 with ⟨h2, h3⟩ | ⟨g, c', cur, h1, h3, h4, h5, h6, h7, h8⟩
 ·rw [List.length_append, List.length_cons] at hlen; omega
 ·cases h1
  cases ha0
  refine ⟨g0, rfl, h3, ⟨_, hc0⟩, by simp [World.frozen?, h4], by rw [Dk.ecells_len, List.length_append, List.length_cons]; rw [List.length_append, List.length_cons] at hlen; omega, .inr ⟨g0, c, cur.setIfInBounds (l.length * 2 + 1) (.string v), rfl, h3, Dk.heap_set h4 _, h5, h6, by simpa using h7, ?_⟩⟩
  rw [Array.toList_setIfInBounds, List.take_set, h8, ecells_setV]
set_option maxRecDepth 100000 in
set_option maxHeartbeats 8000000 in
theorem plain_h (w : World) (k : Int) (t : ByteArray) (pa : Option Addr) (pn pc : Nat) (es : List En) (la : Option Addr) (ln lc : Nat) (hR : RdE w pa pn es) (hk : wi k 1048576 % 4 = 1) :
  Calls Tryz.prog 7 #[.agg #[.int .i64 k, .string t, .slice pa pn pc, .slice la ln lc]] w fun e w' => PlainV w w' e := by
 have HR : Hid (RdE w pa pn es) := hR
 have hpn : pn ≤ 9223372036854775807 := Nat.le_trans hR.max (by decide)
 clear hR
 have HW := fun w => Within_wi k 1048576 w (by decide)
 obtain ⟨z, hz⟩ : ∃ z, wi k 1048576 = z := ⟨_, rfl⟩
 have hz2 := wi_le k 1048576
 rw [hz] at HW hk hz2
 have hz3 : (z : Int).tmod 4 = 1 := by rw [Int.tmod_eq_emod_of_nonneg (by omega)]; omega
 clear hz hk
 obtain ⟨w0, hw0⟩ : ∃ w0, w.alloc (.cells #[.int .i64 k, .string t, .slice pa pn pc, .slice la ln lc] 25) = w0 := ⟨_, rfl⟩
 obtain ⟨w1, hw1⟩ : ∃ w1, w0.alloc (.cells #[.int .i64 0, .string ⟨#[]⟩, .slice none 0 0, .slice none 0 0] 29) = w1 := ⟨_, rfl⟩
 obtain ⟨w2, hw2⟩ : ∃ w2, w1.alloc (.cells #[.int .i64 2, .string ⟨#[]⟩, .slice none 0 0, .slice none 0 0] 29) = w2 := ⟨_, rfl⟩
 have hb0 : Below w.heap.size w w0 := by rw [← hw0]; exact alloc_below w _
 have hb1 : Below w0.heap.size w0 w1 := by rw [← hw1]; exact alloc_below w0 _
 have hb2 : Below w1.heap.size w1 w2 := by rw [← hw2]; exact alloc_below w1 _
 have hl0 : w.heap.size < w0.heap.size := by rw [← hw0]; exact alloc_lt w _ _
 have hl1 : w0.heap.size < w1.heap.size := by rw [← hw1]; exact alloc_lt w0 _ _
 have hl2 : w1.heap.size < w2.heap.size := by rw [← hw2]; exact alloc_lt w1 _ _
 have hs1 : w0.heap.size + 1 = w1.heap.size := by rw [← hw1]; exact (World.size_alloc _ _).symm
 have HP : Hid (PX w w2 w2.heap.size w.heap.size w0.heap.size w1.heap.size #[.int .i64 k, .string t, .slice pa pn pc, .slice la ln lc] 2 ⟨#[]⟩ (.slice none 0 0) (.slice none 0 0)) := by
  refine ⟨hb0.trans ((hb1.trans (hb2.mono hb1.size)).mono hb0.size), Nat.le_refl _, ?_, ?_, ?_, Nat.le_refl _, hl0, hl1, hl2⟩
  ·rw [hb2.block _ (by omega), hb1.block _ hl0, ← hw0]; exact heap_alloc_new w _
  ·rw [hb2.block _ hl1, ← hw1]; exact heap_alloc_new w0 _
  ·rw [← hw2]; exact heap_alloc_new w1 _
 have hc0 : w0.cell? ⟨w.heap.size, 0, none⟩ = some (.int .i64 k) := by rw [← hw0]; exact cell_new w _ _ 0 _ rfl
 have hc0' : w1.cell? ⟨w.heap.size, 0, none⟩ = some (.int .i64 k) := by rw [hb1.cell (p := ⟨w.heap.size, 0, none⟩) hl0]; exact hc0
 have HW2 : Hid (w1.alloc (.cells #[.int .i64 2, .string ⟨#[]⟩, .slice none 0 0, .slice none 0 0] 29) = w2) := hw2
 have hl3 : w.heap.size < w1.heap.size := by omega
 obtain ⟨N, hN⟩ : ∃ N, min pn 12 = N := ⟨_, rfl⟩
 have hN1 : N ≤ pn ∧ N ≤ 12 ∧ (pn = N ∨ N = 12) := by omega
 clear hN
 clear hb0 hb1 hb2 hl2 hw2
 go_enter Tryz.func7, Tryz.ntmps7
 go_wp2_with fail
 refine (HW _).mono ?_
 rintro e w1 ⟨rfl, rfl⟩
 go_wp2
 rw [HW2.out]
 go_loopg [4, 5, 6, 7] N (fun g iv fv xv kv wr => ∃ (i : Nat) (a : Option Addr) (m c : Nat) (acc : List En), i + g = N ∧ iv = .int .i64 i ∧ m ≤ i ∧ Hid (PX w wr w2.heap.size w.heap.size w0.heap.size w1.heap.size #[.int .i64 k, .string t, .slice pa pn pc, .slice la ln lc] 2 ⟨#[]⟩ (.slice a m c) (.slice none 0 0)) ∧ Hid (OwnQ wr w2.heap.size a m c acc) ∧ Hid (Sz 20 acc ∧ (keysOf acc).Nodup))
 case atStart => exact ⟨0, none, 0, 0, [], by omega, rfl, Nat.le_refl _, HP, Dk.OwnR.nil _ _ _ _, fun e he => absurd he (by simp), List.nodup_nil⟩
 case round =>
  obtain ⟨i, a, m, c, acc, hi, rfl, hmi, HX, HO, HS⟩ := hrel
  by_cases hiN : i < N
  ·have h8 : (i : Int) < pn := by omega
   have h9 : (i : Int) < 12 := by omega
   have hbd : Below wr.heap.size wr wr.drew := below_drewN wr 1
   have HXd : Hid (PX w wr.drew w2.heap.size w.heap.size w0.heap.size w1.heap.size #[.int .i64 k, .string t, .slice pa pn pc, .slice la ln lc] 2 ⟨#[]⟩ (.slice a m c) (.slice none 0 0)) := HX.out.keep (hbd.mono HX.out.siz)
   have HOd : Hid (OwnQ wr.drew w2.heap.size a m c acc) := Dk.OwnR.keep HO.out hbd
   obtain ⟨pb, off, hpa, hK, hU⟩ := (HR.out.keep HXd.out.bel).cell i (by omega)
   generalize (es.getD i (⟨#[]⟩, ⟨#[]⟩)).1 = K at hK
   generalize (es.getD i (⟨#[]⟩, ⟨#[]⟩)).2 = U at hU
   have HC1 := fun w => Cut_any K 20 w (by decide)
   have HC2 := fun w => Cut_any U 20 w (by decide)
   have hf9 : (cutB K 20).size ≤ 20 := by have := size_cutB K 20 (by decide); omega
   have hx9 : (cutB U 20).size ≤ 20 := by have := size_cutB U 20 (by decide); omega
   generalize cutB K 20 = f at HC1 hf9
   generalize cutB U 20 = x at HC2 hx9
   have HZ : Hid (f.size ≤ 20 ∧ x.size ≤ 20) := ⟨hf9, hx9⟩
   obtain ⟨d0, d1, d2, d3⟩ := HX.out.cd
   obtain ⟨x0, x1, x2, x3, xf⟩ := HX.out.cv
   obtain ⟨e0, e1, e2, e3⟩ := HXd.out.cd
   obtain ⟨y0, y1, y2, y3, yf⟩ := HXd.out.cv
   have hml : acc.length = m := OwnQ.len HO.out
   have HML : Hid (acc.length = m) := hml
   have HSd : Hid (wr.drew.cell? ⟨w.heap.size, 2, none⟩ = some (.slice (some ⟨pb, off, none⟩) pn pc) ∧ wr.drew.cell? ⟨pb, off + i * 2, none⟩ = some (.string K) ∧ wr.drew.cell? ⟨pb, off + i * 2 + 1, none⟩ = some (.string U)) := ⟨by rw [← hpa]; exact e2, hK, hU⟩
   subst hpa
   have hm12 : m ≤ 12 := by omega
   clear hbd hf9 hx9 hml hK hU e0 e1 e3
   by_cases hmem : f ∈ keysOf acc
   ·obtain ⟨l, u, r, hsp⟩ := Dk.key_split hmem
    have hnl : f ∉ keysOf l := by
     have h1 := HS.out.2
     rw [hsp] at h1
     unfold keysOf at h1 ⊢
     rw [List.map_append, List.map_cons, List.nodup_append] at h1
     intro hq
     exact h1.2.2 f hq f (by simp) rfl
    subst hsp
    have HF := Field_yes w2.heap.size a m c 2 ⟨#[]⟩ (.slice none 0 0) l r f u wr.drew HOd.out (by omega) hnl
    obtain ⟨L, hL⟩ : ∃ L, l.length = L := ⟨_, rfl⟩
    have hLm : L < m := by have := HML.out; rw [List.length_append, List.length_cons] at this; omega
    rw [hL] at HF
    have hL12 : L * 2 ≤ 24 := by omega
    clear hnl hmem
    go_upto_region 15 with fail
    go_region_held3 (fun w' => w'.cell? ⟨w.heap.size, 2, none⟩ = some (.slice (some ⟨pb, off, none⟩) pn pc) ∧ w'.cell? ⟨pb, off + i * 2, none⟩ = some (.string K) ∧ w'.cell? ⟨pb, off + i * 2 + 1, none⟩ = some (.string U)) (exact HSd.out) (first
     | (go_at_call_of 15 (Value.string K); refine (HC1 _).mono ?_; rintro e wx ⟨rfl, rfl⟩)
     | (go_at_call_of 15 (Value.string U); refine (HC2 _).mono ?_; rintro e wx ⟨rfl, rfl⟩))
    go_wp2_with fail
    refine HF.mono ?_
    rintro e w5 ⟨rfl, hb⟩
    have HX5 : Hid (PX w w5 w2.heap.size w.heap.size w0.heap.size w1.heap.size #[.int .i64 k, .string t, .slice (some ⟨pb, off, none⟩) pn pc, .slice la ln lc] 2 ⟨#[]⟩ (.slice a m c) (.slice none 0 0)) := HXd.out.keep (hb.mono HXd.out.siz)
    have hO5 : OwnQ w5 w2.heap.size a m c (l ++ (f, u) :: r) := Dk.OwnR.keep HOd.out hb
    obtain ⟨g, hg, hBg, ⟨uq, hcell⟩, hfz, hO6⟩ := hO5.setV x
    rw [hL] at hcell hfz hO6
    subst hg
    obtain ⟨z0, z1, z2, z3, zf⟩ := HX5.out.cv
    have HX6 : Hid (PX w (w5.setCell ⟨g, L * 2 + 1, none⟩ (.string x)) w2.heap.size w.heap.size w0.heap.size w1.heap.size #[.int .i64 k, .string t, .slice (some ⟨pb, off, none⟩) pn pc, .slice la ln lc] 2 ⟨#[]⟩ (.slice (some ⟨g, 0, none⟩) m c) (.slice none 0 0)) := HX5.out.keep ((Stay.set (w := w5) (q := g) (o := L * 2 + 1) (v := .string x)).below (fun j hj => by simp only [List.mem_singleton] at hj; omega) HX5.out.siz)
    have HO6 : Hid (OwnQ (w5.setCell ⟨g, L * 2 + 1, none⟩ (.string x)) w2.heap.size (some ⟨g, 0, none⟩) m c (l ++ (f, x) :: r)) := hO6
    have HS6 : Hid (Sz 20 (l ++ (f, x) :: r) ∧ (keysOf (l ++ (f, x) :: r)).Nodup) := by
     refine ⟨fun e he => ?_, ?_⟩
     ·rcases List.mem_append.1 he with h1 | h1
      ·exact HS.out.1 e (List.mem_append.2 (.inl h1))
      ·rcases List.mem_cons.1 h1 with rfl | h1
       ·exact HZ.out
       ·exact HS.out.1 e (List.mem_append.2 (.inr (List.mem_cons_of_mem _ h1)))
     ·have h1 := HS.out.2
      unfold keysOf at h1 ⊢
      rw [List.map_append, List.map_cons] at h1 ⊢
      exact h1
    clear hb hO5 hO6 HF
    go_wp2
    go_roundg (gk - 1)
    case measure => omega
    case rel => exact ⟨i + 1, _, m, c, l ++ (f, x) :: r, by omega, by go_num, by omega, HX6, HO6, HS6⟩
   ·have HF := Field_no w2.heap.size a m c 2 ⟨#[]⟩ (.slice none 0 0) acc f wr.drew HOd.out (by omega) hmem
    have HNm : Hid (f ∉ keysOf acc) := hmem
    clear hmem
    go_upto_region 15 with fail
    go_region_held3 (fun w' => w'.cell? ⟨w.heap.size, 2, none⟩ = some (.slice (some ⟨pb, off, none⟩) pn pc) ∧ w'.cell? ⟨pb, off + i * 2, none⟩ = some (.string K) ∧ w'.cell? ⟨pb, off + i * 2 + 1, none⟩ = some (.string U)) (exact HSd.out) (first
     | (go_at_call_of 15 (Value.string K); refine (HC1 _).mono ?_; rintro e wx ⟨rfl, rfl⟩)
     | (go_at_call_of 15 (Value.string U); refine (HC2 _).mono ?_; rintro e wx ⟨rfl, rfl⟩))
    go_wp2_with fail
    refine HF.mono ?_
    rintro e w5 ⟨rfl, hb⟩
    have HX5 : Hid (PX w w5 w2.heap.size w.heap.size w0.heap.size w1.heap.size #[.int .i64 k, .string t, .slice (some ⟨pb, off, none⟩) pn pc, .slice la ln lc] 2 ⟨#[]⟩ (.slice a m c) (.slice none 0 0)) := HXd.out.keep (hb.mono HXd.out.siz)
    have HO5 : Hid (OwnQ w5 w2.heap.size a m c acc) := Dk.OwnR.keep HOd.out hb
    obtain ⟨z0, z1, z2, z3, zf⟩ := HX5.out.cv
    have hsz := HX5.out.siz
    have HS6 : Hid (Sz 20 (acc ++ [(f, x)]) ∧ (keysOf (acc ++ [(f, x)])).Nodup) := by
     refine ⟨fun e he => ?_, ?_⟩
     ·rcases List.mem_append.1 he with h1 | h1
      ·exact HS.out.1 e h1
      ·rw [List.mem_singleton.1 h1]; exact HZ.out
     ·unfold keysOf
      rw [List.map_append, List.nodup_append]
      refine ⟨HS.out.2, by simp, ?_⟩
      rintro q hq s hs rfl
      simp only [List.map_cons, List.map_nil, List.mem_singleton] at hs
      subst hs
      exact HNm.out hq
    have HC5 : Hid (∀ wn, Below w2.heap.size w5 wn → wn.frozen? ⟨w1.heap.size, 2, none⟩ = false ∧ wn.cell? ⟨w1.heap.size, 2, none⟩ = some (.slice a m c)) := fun wn hb => ⟨(HX5.out.keep hb).cv.2.2.2.2 2, (HX5.out.keep hb).cv.2.2.1⟩
    clear hb HF
    go_wp2_with (at_builtin; refine append_q rfl (.tmp 96) (.tmp 100) rfl w2.heap.size rfl (HO5.out.keep (alloc_below w5 _)) rfl (by simp; rfl) (by simp; rfl) (by omega) (Nat.le_trans hsz (alloc_below w5 _).size) ?_; intro a3 n3 c3 w3 hn3 HO3 HB3; have HB4 : Hid (Below w2.heap.size w5 w3) := ((alloc_below w5 _).mono hsz).trans HB3.out; obtain ⟨fz3, cl3⟩ := HC5.out w3 HB4.out)
    have HX3 : Hid (PX w (w3.setCell ⟨w1.heap.size, 2, none⟩ (.slice a3 n3 c3)) w2.heap.size w.heap.size w0.heap.size w1.heap.size #[.int .i64 k, .string t, .slice (some ⟨pb, off, none⟩) pn pc, .slice la ln lc] 2 ⟨#[]⟩ (.slice a3 n3 c3) (.slice none 0 0)) := (HX5.out.keep HB4.out).set (i := 2) rfl
    have HO4 : Hid (OwnQ (w3.setCell ⟨w1.heap.size, 2, none⟩ (.slice a3 n3 c3)) w2.heap.size a3 n3 c3 (acc ++ [(f, x)])) := by
     refine Dk.OwnR.stay HO3.out (Dk.Stay.set (w := w3)) (fun j hj hm => ?_)
     have h1 := (Dk.OwnR.lt HO3.out hj).1
     have h2 := HX5.out.o4
     simp only [List.mem_singleton] at hm; omega
    go_roundg (gk - 1)
    case measure => omega
    case rel => subst hn3; exact ⟨i + 1, a3, m + 1, c3, acc ++ [(f, x)], by omega, by go_num, by omega, HX3, HO4, HS6⟩
  ·have hiN : i = N := by omega
   have hnot : ((i : Int) < pn ∧ ¬ (i : Int) < 12) ∨ ¬ (i : Int) < pn := by omega
   obtain ⟨x0, x1, x2, x3, xf⟩ := HX.out.cv
   obtain ⟨r0, r1, r2, r3, rf⟩ := HX.out.cr
   obtain ⟨d0, d1, d2, d3⟩ := HX.out.cd
   have HSt := stay_last wr w0.heap.size (.int .i64 2) (.string ⟨#[]⟩) (.slice a m c) (.slice none 0 0)
   have HEnd : Hid (Below w.heap.size w ((((wr.setCell ⟨w0.heap.size, 0, none⟩ (.int .i64 2)).setCell ⟨w0.heap.size, 1, none⟩ (.string ⟨#[]⟩)).setCell ⟨w0.heap.size, 2, none⟩ (.slice a m c)).setCell ⟨w0.heap.size, 3, none⟩ (.slice none 0 0))) := HX.out.bel.trans (HSt.below (fun j hj => by simp only [List.mem_singleton] at hj; omega) HX.out.bel.size)
   have HOw : Hid (OwnQ ((((wr.setCell ⟨w0.heap.size, 0, none⟩ (.int .i64 2)).setCell ⟨w0.heap.size, 1, none⟩ (.string ⟨#[]⟩)).setCell ⟨w0.heap.size, 2, none⟩ (.slice a m c)).setCell ⟨w0.heap.size, 3, none⟩ (.slice none 0 0)) w.heap.size a m c acc) := by
    have o3 := HX.out.o3; have o4 := HX.out.o4
    refine Dk.OwnR.low (Dk.OwnR.stay HO.out (⟨HSt.os, HSt.tape, HSt.output, HSt.size, HSt.block⟩ : Dk.Stay _ _ _) (fun j hj hm => ?_)) (by have := HX.out.o1; have := HX.out.o2; omega)
    have := (Dk.OwnR.lt HO.out hj).1
    simp only [List.mem_singleton] at hm; omega
   clear HSt
   rcases hnot with ⟨h8, h9⟩ | h8
   all_goals
    go_wp2
    exact bodyPost_ret (v := .agg #[.int .i64 2, .string ⟨#[]⟩, (.slice a m c), (.slice none 0 0)]) (results_cell_row rfl _ _ w0.heap.size 29 _ (0, 0) _ rfl (heap_last HX.out.r _ _ _ _) Tryz.underlying29 rfl Tryz.infoVal) rfl ⟨HEnd.out, _, .hsh acc, rfl, ⟨a, m, c, rfl, HOw.out⟩, ⟨by rw [OwnQ.len HO.out]; omega, HS.out.1⟩, HS.out.2⟩
end Go.Proofs.YtikimcbalkhooaaGreat
