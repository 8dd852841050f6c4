/- Texts that the others stand on. -/
import Derived.Test.YtikimcbalkhooaaGreatJ11
import Derived.Test.YtikimcbalkhooaaGreatJ19
import Derived.Test.YtikimcbalkhooaaGreatJ13
namespace Go.Proofs.YtikimcbalkhooaaGreat
open Go.RowKit Go.PlainAid
open Dk (En keysOf)
inductive VD where
 | txt (t : ByteArray)
 | hsh (es : List En)
 | set (l : List ByteArray)
 | lst (l : List ByteArray)
def VD.kind : VD → Nat
 | .txt _ => 1
 | .hsh _ => 2
 | .set _ => 3
 | .lst _ => 4
def VD.len : VD → Nat
 | .txt t => t.size
 | .hsh es => es.length
 | .set l => l.length
 | .lst l => l.length
def VD.ok : VD → Prop
 | .txt t => t.size ≤ 100
 | .hsh es => es.length ≤ 100 ∧ Sz 100 es
 | .set l => l.length ≤ 100 ∧ ∀ s ∈ l, s.size ≤ 100
 | .lst l => l.length ≤ 100 ∧ ∀ s ∈ l, s.size ≤ 100
structure QV (w : World) (B l most : Nat) (ts : List ByteArray) (q : Nat) (F : List Nat) : Prop where
 ex : ∃ R ns, Lst w B l R most ts.length ns ∧ Ok most ns ∧ txN ns = ts ∧ ns.length = q ∧ F = l :: R :: fpN ns
 pos : 0 < most
theorem QV.keep {w w' : World} {B l most q : Nat} {ts : List ByteArray} {F : List Nat} (h : QV w B l most ts q F) (hb : Below w.heap.size w w') : QV w' B l most ts q F := by
 obtain ⟨R, ns, h1, h2, h3, h4⟩ := h.ex
 exact ⟨⟨R, ns, h1.keep hb, h2, h3, h4⟩, h.pos⟩
theorem QV.blocks {w : World} {B l most q : Nat} {ts : List ByteArray} {F : List Nat} (h : QV w B l most ts q F) : ∀ k ∈ F, B ≤ k ∧ k < w.heap.size := by
 obtain ⟨R, ns, h1, h2, h3, h4, rfl⟩ := h.ex
 exact h1.fplt
theorem QV.low {w : World} {B l most q : Nat} {ts : List ByteArray} {F : List Nat} (h : QV w B l most ts q F) : B ≤ w.heap.size := by
 obtain ⟨R, ns, h1, h2, h3, h4, rfl⟩ := h.ex
 exact Nat.le_trans h1.lowl (Nat.le_of_lt h1.lt)
theorem QV.down {w : World} {B C l most q : Nat} {ts : List ByteArray} {F : List Nat} (h : QV w B l most ts q F) (hC : C ≤ B) : QV w C l most ts q F := by
 obtain ⟨R, ns, h1, h2, h3, h4, rfl⟩ := h.ex
 refine ⟨⟨R, ns, ⟨h1.blk, h1.ring, h1.adj, fun d hd => ?_, h1.num, Nat.le_trans hC h1.lowl, Nat.le_trans hC h1.lowR⟩, h2, h3, h4, rfl⟩, h.pos⟩
 have hd := h1.nod d hd
 exact ⟨hd.blk, hd.pk.low' hC, hd.fit, hd.siz, Nat.le_trans hC hd.low⟩
theorem Hm.lower {w : World} {B C m x E T : Nat} {es : List En} {pk : Bool} {F : List Nat} (h : Hm w B m x E T es pk F) (hC : C ≤ B) : Hm w C m x E T es pk F := by
 obtain ⟨h1, h2, h3⟩ := h
 refine ⟨h1, Nat.le_trans hC h2, ?_⟩
 rcases h3 with ⟨h3, p, a, n, c, fs, h4, h5, rfl⟩ | ⟨h3, d, D, h4, h5, rfl⟩
 ·exact .inl ⟨h3, p, a, n, c, fs, ⟨h4.blk, h4.pk.low' hC, Nat.le_trans hC h4.low, h4.le, h4.sz, h4.nod, h4.hE, h4.hT⟩, h5, rfl⟩
 ·exact .inr ⟨h3, d, D, ⟨h4.blk, Dct.lower h4.dc hC, Nat.le_trans hC h4.low, h4.sz, h4.hE, h4.hT⟩, h5, rfl⟩
theorem Lst.tagsV {w : World} {B l R most cnt : Nat} {ns : List Nd} (h : Lst w B l R most cnt ns) : ∀ k ∈ l :: R :: fpN ns, ∃ cs t, w.heap[k]? = some (.cells cs t (0, 0)) ∧ t ≠ 9 ∧ t ≠ 46 ∧ t ≠ 62 := by
 intro k hk
 rcases List.mem_cons.1 hk with rfl | hk
 ·exact ⟨_, _, h.blk, by decide, by decide, by decide⟩
 rcases List.mem_cons.1 hk with rfl | hk
 ·obtain ⟨x, y, e⟩ := h.ring
  exact ⟨_, _, e, by decide, by decide, by decide⟩
 ·obtain ⟨d, hd, hk⟩ := List.mem_flatMap.1 hk
  have hN := h.nod d hd
  rcases List.mem_cons.1 hk with rfl | hk
  ·obtain ⟨x, y, e⟩ := hN.blk
   exact ⟨_, _, e, by decide, by decide, by decide⟩
  rcases List.mem_cons.1 hk with rfl | hk
  ·exact ⟨_, _, hN.pk.blk, by decide, by decide, by decide⟩
  ·rw [Option.mem_toList] at hk
   rcases hN.pk.own.2 with ⟨h2, -⟩ | ⟨g, c, cur, h1, h3, h4, -⟩
   ·injection h2 with e1
    rw [e1] at hk; cases hk
   ·injection h1 with e1
    rw [e1] at hk
    cases hk
    exact ⟨_, _, h4, by decide, by decide, by decide⟩
theorem QV.tags {w : World} {B l most q : Nat} {ts : List ByteArray} {F : List Nat} (h : QV w B l most ts q F) : ∀ k ∈ F, ∃ cs t, w.heap[k]? = some (.cells cs t (0, 0)) ∧ t ≠ 9 ∧ t ≠ 46 ∧ t ≠ 62 := by
 obtain ⟨R, ns, h1, h2, h3, h4, rfl⟩ := h.ex
 exact h1.tagsV
theorem QV.far {w : World} {B C l most q : Nat} {ts : List ByteArray} {F : List Nat} (h : QV w B l most ts q F) {a : Option Addr} {n c : Nat} {ls : List ByteArray} (hO : OwnS w C a n c ls) : RdF w a n ls F := by
 refine ⟨hO.rd, ?_⟩
 intro x hx
 rcases hO.2 with ⟨e, -⟩ | ⟨g, c', cur, e, h4, h5, -⟩
 ·injection e with e1
  rw [e1] at hx; cases hx
 ·injection e with e1
  rw [e1] at hx
  cases hx
  refine ⟨fun hm => ?_, (Array.getElem?_eq_some_iff.1 h5).1⟩
  obtain ⟨cs, t, h6, h7, -⟩ := h.tags _ hm
  rw [h5] at h6
  injection h6 with h6
  injection h6 with _ h8
  exact h7 h8.symm
def VDoes (w : World) (B l most : Nat) (ts : List ByteArray) (F : List Nat) (w' : World) : Prop := ∃ q F', QV w' B l most ts q F' ∧ Left w w' F F'
theorem Does.qv {w w' : World} {B l R most cnt : Nat} {ns : List Nd} {ts : List ByteArray} (h : Does w B l R most cnt ns ts w') (hc : cnt = ts.length) (h0 : 0 < most) : VDoes w B l most ts (l :: R :: fpN ns) w' := by
 subst hc
 obtain ⟨ns', h2, h3, h4, h5⟩ := h
 exact ⟨_, _, ⟨⟨R, ns', h2, h4, h5, rfl, rfl⟩, h0⟩, h3.left⟩
theorem VDoes.below {w w' : World} {B l most q : Nat} {ts rs : List ByteArray} {F : List Nat} (h : QV w B l most rs q F) (hd : VDoes w B l most ts F w') : Below B w w' := by
 obtain ⟨q', F', h1, h2⟩ := hd
 exact h2.stay.below (fun k hk => (h.blocks k hk).1) h.low
theorem VNew (m : Int) (w : World) (most : Nat) (hm : max m 1 = most) :
  Calls Tryz.prog 69 #[.int .i64 m] w fun e w' => Below w.heap.size w w' ∧ ∃ l F, e = .returned (ptr l) ∧ QV w' w.heap.size l most [] 0 F := by
 refine (NewQ_any m w most hm).mono ?_
 rintro e w' ⟨hb, l, R, rfl, h⟩
 exact ⟨hb, l, _, rfl, ⟨R, [], h, fun d hd => absurd hd (by simp), rfl, rfl, rfl⟩, by omega⟩
theorem VLen (w : World) (B l most q : Nat) (ts : List ByteArray) (F : List Nat) (h : QV w B l most ts q F) : Calls Tryz.prog 71 #[ptr l] w fun e w' => e = .returned (.int .i64 (ts.length : Nat)) ∧ w' = w := by
 obtain ⟨R, ns, h1, h2, h3, h4, rfl⟩ := h.ex
 exact LenQ_any B l R most _ ns w h1
theorem VRight (w : World) (B l most q : Nat) (ts : List ByteArray) (F : List Nat) (h : QV w B l most ts q F) (a : Option Addr) (n c : Nat) (ls : List ByteArray) (hR : RdF w a n ls F) (hf : Fit ls) (hc : ts.length + n ≤ 1000000) :
  Calls Tryz.prog 18 #[ptr l, .slice a n c] w fun e w' => e = .returned (.int .i64 0) ∧ VDoes w B l most (ts ++ ls) F w' := by
 obtain ⟨R, ns, h1, h2, rfl, h4, rfl⟩ := h.ex
 refine (Right_ok B l R most _ ns a n c ls w h1 h2 hR hf hc h.pos).mono ?_
 rintro e w' ⟨rfl, hd⟩
 exact ⟨rfl, hd.qv (by rw [List.length_append, hR.rd.len]) h.pos⟩
theorem VAll (w : World) (B l most q : Nat) (ts : List ByteArray) (F : List Nat) (h : QV w B l most ts q F) (hc : ts.length ≤ 1000000) :
  Calls Tryz.prog 41 #[ptr l] w fun e w' => Below w.heap.size w w' ∧ ∃ a2 n2 c2, e = .returned (.slice a2 n2 c2) ∧ OwnS w' w.heap.size a2 n2 c2 ts := by
 obtain ⟨R, ns, h1, h2, rfl, h4, rfl⟩ := h.ex
 exact AllQ_any B l R most _ ns w h1 h2 rfl hc
theorem VNodes (w : World) (B l most q : Nat) (ts : List ByteArray) (F : List Nat) (h : QV w B l most ts q F) (hc : ts.length ≤ 999999) :
  Calls Tryz.prog 39 #[ptr l] w fun e w' => Below w.heap.size w w' ∧ ∃ a2 c2, e = .returned (.slice a2 q c2) := by
 obtain ⟨R, ns, h1, h2, rfl, h4, rfl⟩ := h.ex
 have hl := ok_len h2
 refine (Nodes_any B l R most _ ns w h1 (by omega)).mono ?_
 rintro e w' ⟨hb, a2, n2, c2, rfl, hO⟩
 have := hO.len
 rw [List.length_map] at this
 exact ⟨hb, a2, c2, by rw [← h4, this]⟩
structure VB (w : World) (v k : Nat) (t : ByteArray) (h s l : Value) : Prop where
 blk : w.heap[v]? = some (.cells #[.int .i64 (k : Nat), .string t, h, s, l] 46 (0, 0))
theorem VB.lt {w : World} {v k : Nat} {t : ByteArray} {h s l : Value} (b : VB w v k t h s l) : v < w.heap.size := (Array.getElem?_eq_some_iff.1 b.blk).1
theorem VB.kept {w wn : World} {v k : Nat} {t : ByteArray} {h s l : Value} (b : VB w v k t h s l) (hb : wn.heap[v]? = w.heap[v]?) : VB wn v k t h s l := ⟨by rw [hb]; exact b.blk⟩
theorem VB.keep {w wn : World} {v k : Nat} {t : ByteArray} {h s l : Value} (b : VB w v k t h s l) (hb : Below w.heap.size w wn) : VB wn v k t h s l := b.kept (hb.block v b.lt)
theorem VB.ck {w : World} {v k : Nat} {t : ByteArray} {h s l : Value} (b : VB w v k t h s l) : w.cell? ⟨v, 0, none⟩ = some (.int .i64 (k : Nat)) := by simp [World.cell?, b.blk]
theorem VB.ct {w : World} {v k : Nat} {t : ByteArray} {h s l : Value} (b : VB w v k t h s l) : w.cell? ⟨v, 1, none⟩ = some (.string t) := by simp [World.cell?, b.blk]
theorem VB.ch {w : World} {v k : Nat} {t : ByteArray} {h s l : Value} (b : VB w v k t h s l) : w.cell? ⟨v, 2, none⟩ = some h := by simp [World.cell?, b.blk]
theorem VB.cs {w : World} {v k : Nat} {t : ByteArray} {h s l : Value} (b : VB w v k t h s l) : w.cell? ⟨v, 3, none⟩ = some s := by simp [World.cell?, b.blk]
theorem VB.cl {w : World} {v k : Nat} {t : ByteArray} {h s l : Value} (b : VB w v k t h s l) : w.cell? ⟨v, 4, none⟩ = some l := by simp [World.cell?, b.blk]
theorem VB.new (w : World) (k : Nat) (t : ByteArray) (h s l : Value) : VB (w.alloc (.cells #[.int .i64 (k : Nat), .string t, h, s, l] 46)) w.heap.size k t h s l := ⟨heap_alloc_new w _⟩
def Hold (w : World) (B : Nat) (d : VD) (one : Bool) (t : ByteArray) (h s l : Value) (F : List Nat) : Prop :=
 match d with
 | .txt u => t = u ∧ h = .pointer none ∧ s = .pointer none ∧ l = .pointer none ∧ F = []
 | .hsh es => t = ⟨#[]⟩ ∧ s = .pointer none ∧ l = .pointer none ∧ ∃ m x E T, h = ptr m ∧ Hm w B m x E T es one F
 | .set r => t = ⟨#[]⟩ ∧ h = .pointer none ∧ l = .pointer none ∧ ∃ m x E T, s = ptr m ∧ Zs.Ss w B m x E T r one F
 | .lst r => t = ⟨#[]⟩ ∧ h = .pointer none ∧ s = .pointer none ∧ ∃ m most q, l = ptr m ∧ QV w B m most r q F ∧ one = decide (q ≤ 1)
theorem Hold.keep {w w' : World} {B : Nat} {d : VD} {one : Bool} {t : ByteArray} {h s l : Value} {F : List Nat} (H : Hold w B d one t h s l F) (hb : Below w.heap.size w w') : Hold w' B d one t h s l F := by
 cases d with
 | txt u => exact H
 | hsh es => obtain ⟨h1, h2, h3, m, x, E, T, h4, h5⟩ := H; exact ⟨h1, h2, h3, m, x, E, T, h4, h5.keep hb⟩
 | set r => obtain ⟨h1, h2, h3, m, x, E, T, h4, h5⟩ := H; exact ⟨h1, h2, h3, m, x, E, T, h4, h5.keep hb⟩
 | lst r => obtain ⟨h1, h2, h3, m, most, q, h4, h5, h6⟩ := H; exact ⟨h1, h2, h3, m, most, q, h4, h5.keep hb, h6⟩
structure PV (w : World) (B v : Nat) (d : VD) (one : Bool) (F : List Nat) : Prop where
 ex : ∃ t h s l, VB w v d.kind t h s l ∧ Hold w B d one t h s l F
 low : B ≤ v
 siz : B ≤ w.heap.size
theorem PV.keep {w w' : World} {B v : Nat} {d : VD} {one : Bool} {F : List Nat} (h : PV w B v d one F) (hb : Below w.heap.size w w') : PV w' B v d one F := by
 obtain ⟨t, a, b, c, h1, h2⟩ := h.ex
 exact ⟨⟨t, a, b, c, h1.keep hb, h2.keep hb⟩, h.low, Nat.le_trans h.siz hb.size⟩
theorem PV.lt {w : World} {B v : Nat} {d : VD} {one : Bool} {F : List Nat} (h : PV w B v d one F) : v < w.heap.size := by
 obtain ⟨t, a, b, c, h1, h2⟩ := h.ex
 exact h1.lt
theorem kind_any (w : World) (B v : Nat) (d : VD) (one : Bool) (F : List Nat) (h : PV w B v d one F) :
  Calls Tryz.prog 42 #[ptr v] w fun e w' => e = .returned (.int .i64 (d.kind : Nat)) ∧ w' = w := by
 obtain ⟨⟨t, a, b, c, h1, h2⟩, -, -⟩ := h
 have k0 := h1.ck
 have k2 := h1.ch
 have k3 := h1.cs
 have k4 := h1.cl
 clear h1
 cases d with
 | txt u =>
  obtain ⟨rfl, rfl, rfl, rfl, rfl⟩ := h2
  simp only [VD.kind] at k0 ⊢
  go_enter Tryz.func42, Tryz.ntmps42
  go_wp2
  go_ret
  exact ⟨rfl, rfl⟩
 | hsh es =>
  obtain ⟨rfl, rfl, rfl, m, x, E, T, rfl, h5⟩ := h2
  clear h5
  simp only [VD.kind] at k0 ⊢
  go_enter Tryz.func42, Tryz.ntmps42
  go_wp2
  go_ret
  exact ⟨rfl, rfl⟩
 | set r =>
  obtain ⟨rfl, rfl, rfl, m, x, E, T, rfl, h5⟩ := h2
  clear h5
  simp only [VD.kind] at k0 ⊢
  go_enter Tryz.func42, Tryz.ntmps42
  go_wp2
  go_ret
  exact ⟨rfl, rfl⟩
 | lst r =>
  obtain ⟨rfl, rfl, rfl, m, most, q, rfl, h5, h6⟩ := h2
  clear h5 h6
  simp only [VD.kind] at k0 ⊢
  go_enter Tryz.func42, Tryz.ntmps42
  go_wp2
  go_ret
  exact ⟨rfl, rfl⟩
theorem kind_nil (w : World) : Calls Tryz.prog 42 #[.pointer none] w fun e w' => e = .returned (.int .i64 0) ∧ w' = w := by
 go_enter Tryz.func42, Tryz.ntmps42
 go_wp2
 go_ret
 exact ⟨rfl, rfl⟩
theorem LenV (w : World) (B v : Nat) (d : VD) (one : Bool) (F : List Nat) (h : PV w B v d one F) :
  Calls Tryz.prog 22 #[ptr v] w fun e w' => e = .returned (.int .i64 (d.len : Nat)) ∧ Below w.heap.size w w' := by
 have HK := kind_any w B v d one F h
 obtain ⟨⟨t, a, b, c, h1, h2⟩, -, -⟩ := h
 have k1 := h1.ct
 have k2 := h1.ch
 have k3 := h1.cs
 have k4 := h1.cl
 clear h1
 cases d with
 | txt u =>
  obtain ⟨rfl, rfl, rfl, rfl, rfl⟩ := h2
  simp only [VD.kind, VD.len] at HK ⊢
  go_enter Tryz.func22, Tryz.ntmps22
  go_wp2_with fail
  refine HK.mono ?_
  rintro e w ⟨rfl, rfl⟩
  go_wp2
  go_ret
  exact ⟨rfl, Below.refl _ _⟩
 | hsh es =>
  obtain ⟨rfl, rfl, rfl, m, x, E, T, rfl, h5⟩ := h2
  have HL := LenH B m x E T es one F w h5
  clear h5
  simp only [VD.kind, VD.len] at HK ⊢
  go_enter Tryz.func22, Tryz.ntmps22
  go_wp2_with fail
  refine HK.mono ?_
  rintro e w ⟨rfl, rfl⟩
  go_wp2_with fail
  refine HL.mono ?_
  rintro e w1 ⟨rfl, hb⟩
  go_wp2
  go_ret
  exact ⟨rfl, hb⟩
 | set r =>
  obtain ⟨rfl, rfl, rfl, m, x, E, T, rfl, h5⟩ := h2
  have HL := Zs.LenS B m x E T r one F w h5
  clear h5
  simp only [VD.kind, VD.len] at HK ⊢
  go_enter Tryz.func22, Tryz.ntmps22
  go_wp2_with fail
  refine HK.mono ?_
  rintro e w ⟨rfl, rfl⟩
  go_wp2_with fail
  refine HL.mono ?_
  rintro e w ⟨rfl, rfl⟩
  go_wp2
  go_ret
  exact ⟨rfl, Below.refl _ _⟩
 | lst r =>
  obtain ⟨rfl, rfl, rfl, m, most, q, rfl, h5, h6⟩ := h2
  have HL := VLen w B m most q r F h5
  clear h5 h6
  simp only [VD.kind, VD.len] at HK ⊢
  go_enter Tryz.func22, Tryz.ntmps22
  go_wp2_with fail
  refine HK.mono ?_
  rintro e w ⟨rfl, rfl⟩
  go_wp2_with fail
  refine HL.mono ?_
  rintro e w ⟨rfl, rfl⟩
  go_wp2
  go_ret
  exact ⟨rfl, Below.refl _ _⟩
theorem VD.kind_le (d : VD) : 1 ≤ d.kind ∧ d.kind ≤ 4 := by cases d <;> simp [VD.kind]
def typ (k : Nat) : ByteArray := if k = 1 then ⟨#[115, 116, 114, 105, 110, 103]⟩ else if k = 2 then ⟨#[104, 97, 115, 104]⟩ else if k = 3 then ⟨#[115, 101, 116]⟩ else ⟨#[108, 105, 115, 116]⟩
theorem TypeV (w : World) (B v : Nat) (d : VD) (one : Bool) (F : List Nat) (h : PV w B v d one F) :
  Calls Tryz.prog 23 #[ptr v] w fun e w' => e = .returned (.string (typ d.kind)) ∧ w' = w := by
 have HK := kind_any w B v d one F h
 clear h
 cases d
 all_goals
  simp only [VD.kind] at HK ⊢
  go_enter Tryz.func23, Tryz.ntmps23
  go_wp2_with fail
  refine HK.mono ?_
  rintro e w ⟨rfl, rfl⟩
  go_wp2
  go_ret
  exact ⟨rfl, rfl⟩
abbrev nInt : ByteArray := ⟨#[105, 110, 116]⟩
abbrev nEmb : ByteArray := ⟨#[101, 109, 98, 115, 116, 114]⟩
abbrev nRaw : ByteArray := ⟨#[114, 97, 119]⟩
abbrev nPack : ByteArray := ⟨#[108, 105, 115, 116, 112, 97, 99, 107]⟩
abbrev nTab : ByteArray := ⟨#[104, 97, 115, 104, 116, 97, 98, 108, 101]⟩
abbrev nQuick : ByteArray := ⟨#[113, 117, 105, 99, 107, 108, 105, 115, 116]⟩
def encT (s : ByteArray) : ByteArray := if (parseL (lst s)).isSome then nInt else if s.size ≤ 44 then nEmb else nRaw
def VD.enc (d : VD) (one : Bool) : ByteArray :=
 match d with
 | .txt t => encT t
 | .hsh _ => if one then nPack else nTab
 | .set _ => if one then nPack else nTab
 | .lst _ => if one then nPack else nQuick
theorem textEncoding_any (s : ByteArray) (w : World) (hs : s.size ≤ 1000000) :
  Calls Tryz.prog 51 #[.string s] w fun e w' => e = .returned (.string (encT s)) ∧ w' = w := by
 obtain ⟨o, ho⟩ : ∃ o, parseL (lst s) = o := ⟨_, rfl⟩
 have HP := Parse_any s w (by unfold maxLen; omega) o ho
 obtain ⟨R, hR⟩ : ∃ R, encT s = R := ⟨_, rfl⟩
 have HR : Hid ((if o.isSome then nInt else if s.size ≤ 44 then nEmb else nRaw) = R) := by show _ = _; rw [← hR, ← ho]; rfl
 rw [hR]
 clear hR ho
 cases o with
 | some z =>
  have HR2 : Hid (nInt = R) := HR.out
  go_enter Tryz.func51, Tryz.ntmps51
  go_wp2_with fail
  refine HP.mono ?_
  rintro e w ⟨rfl, rfl⟩
  dsimp only [i64R, Option.getD_some, Option.isSome_some]
  go_wp2
  go_ret
  exact ⟨by rw [← HR2.out]; rfl, rfl⟩
 | none =>
  have HR2 : Hid ((if s.size ≤ 44 then nEmb else nRaw) = R) := HR.out
  by_cases h44 : s.size ≤ 44
  ·go_enter Tryz.func51, Tryz.ntmps51
   go_wp2_with fail
   refine HP.mono ?_
   rintro e w ⟨rfl, rfl⟩
   dsimp only [i64R, Option.getD_none, Option.isSome_none]
   go_wp2
   go_ret
   exact ⟨by rw [← HR2.out, if_pos h44]; rfl, rfl⟩
  ·go_enter Tryz.func51, Tryz.ntmps51
   go_wp2_with fail
   refine HP.mono ?_
   rintro e w ⟨rfl, rfl⟩
   dsimp only [i64R, Option.getD_none, Option.isSome_none]
   go_wp2
   go_ret
   exact ⟨by rw [← HR2.out, if_neg h44]; rfl, rfl⟩
theorem packEncoding_any (one : Bool) (s : ByteArray) (w : World) :
  Calls Tryz.prog 52 #[.bool one, .string s] w fun e w' => e = .returned (.string (if one then nPack else s)) ∧ w' = w := by
 cases one
 all_goals
  go_enter Tryz.func52, Tryz.ntmps52
  go_wp2
  go_ret
  exact ⟨rfl, rfl⟩
theorem EncodingV (w : World) (B v : Nat) (d : VD) (one : Bool) (F : List Nat) (h : PV w B v d one F) (hok : d.ok) :
  Calls Tryz.prog 14 #[ptr v] w fun e w' => e = .returned (.string (d.enc one)) ∧ Below w.heap.size w w' := by
 have HK := kind_any w B v d one F h
 obtain ⟨⟨t, a, b, c, h1, h2⟩, -, -⟩ := h
 have k1 := h1.ct
 have k2 := h1.ch
 have k3 := h1.cs
 have k4 := h1.cl
 clear h1
 cases d with
 | txt u =>
  obtain ⟨rfl, rfl, rfl, rfl, rfl⟩ := h2
  simp only [VD.kind, VD.enc] at HK ⊢
  have HT := textEncoding_any t w (by have : t.size ≤ 100 := hok; omega)
  go_enter Tryz.func14, Tryz.ntmps14
  go_wp2_with fail
  refine HK.mono ?_
  rintro e w ⟨rfl, rfl⟩
  go_wp2_with fail
  refine HT.mono ?_
  rintro e w ⟨rfl, rfl⟩
  go_wp2
  go_ret
  exact ⟨rfl, Below.refl _ _⟩
 | hsh es =>
  obtain ⟨rfl, rfl, rfl, m, x, E, T, rfl, h5⟩ := h2
  have HL := PackedH B m x E T es one F w h5
  clear h5
  simp only [VD.kind, VD.enc] at HK ⊢
  go_enter Tryz.func14, Tryz.ntmps14
  go_wp2_with fail
  refine HK.mono ?_
  rintro e w ⟨rfl, rfl⟩
  go_wp2_with fail
  refine HL.mono ?_
  rintro e w ⟨rfl, rfl⟩
  go_wp2_with fail
  refine (packEncoding_any one nTab _).mono ?_
  rintro e w ⟨rfl, rfl⟩
  go_wp2
  all_goals
   go_ret
   exact ⟨by first | rfl | simp [*], Below.refl _ _⟩
 | set r =>
  obtain ⟨rfl, rfl, rfl, m, x, E, T, rfl, h5⟩ := h2
  have HL := Zs.PackedS B m x E T r one F w h5
  clear h5
  simp only [VD.kind, VD.enc] at HK ⊢
  go_enter Tryz.func14, Tryz.ntmps14
  go_wp2_with fail
  refine HK.mono ?_
  rintro e w ⟨rfl, rfl⟩
  go_wp2_with fail
  refine HL.mono ?_
  rintro e w ⟨rfl, rfl⟩
  go_wp2_with fail
  refine (packEncoding_any one nTab _).mono ?_
  rintro e w ⟨rfl, rfl⟩
  go_wp2
  all_goals
   go_ret
   exact ⟨by first | rfl | simp [*], Below.refl _ _⟩
 | lst r =>
  obtain ⟨rfl, rfl, rfl, m, most, q, rfl, h5, h6⟩ := h2
  have HL := VNodes w B m most q r F h5 (by have := hok.1; omega)
  clear h5
  simp only [VD.kind, VD.enc] at HK ⊢
  by_cases hq : q ≤ 1
  ·obtain rfl : true = one := by rw [h6]; simp [hq]
   clear h6
   have hq2 : (q : Int) ≤ 1 := by omega
   go_enter Tryz.func14, Tryz.ntmps14
   go_wp2_with fail
   refine HK.mono ?_
   rintro e w ⟨rfl, rfl⟩
   go_wp2_with fail
   refine HL.mono ?_
   rintro e w1 ⟨hb, a2, c2, rfl⟩
   have HB : Hid (Below w.heap.size w w1) := hb
   clear hb
   go_wp2_with fail
   refine (packEncoding_any true nQuick _).mono ?_
   rintro e w1 ⟨rfl, rfl⟩
   go_wp2
   go_ret
   exact ⟨rfl, HB.out⟩
  ·obtain rfl : false = one := by rw [h6]; simp [hq]
   clear h6
   have hq2 : decide (q ≤ 1) = false := by simp; omega
   have hq3 : decide ((q : Int) ≤ 1) = false := by simp; omega
   have hq4 : (1 : Int) < q := by omega
   clear hq
   go_enter Tryz.func14, Tryz.ntmps14
   go_wp2_with fail
   refine HK.mono ?_
   rintro e w ⟨rfl, rfl⟩
   go_wp2_with fail
   refine HL.mono ?_
   rintro e w1 ⟨hb, a2, c2, rfl⟩
   have HB : Hid (Below w.heap.size w w1) := hb
   clear hb
   go_wp2_with fail
   refine (packEncoding_any false nQuick _).mono ?_
   rintro e w1 ⟨rfl, rfl⟩
   go_wp2
   go_ret
   exact ⟨rfl, HB.out⟩
theorem cell_new (w : World) (cs : Array Value) (t : TypeId) (i : Nat) (v : Value) (h : cs[i]? = some v) : (w.alloc (.cells cs t)).cell? ⟨w.heap.size, i, none⟩ = some v := by
 simp only [World.cell?, heap_alloc_new]; exact h
theorem OfText_any (s : ByteArray) (w : World) :
  Calls Tryz.prog 29 #[.string s] w fun e w' => Below w.heap.size w w' ∧ ∃ v, e = .returned (ptr v) ∧ PV w' w.heap.size v (.txt s) true [] := by
 obtain ⟨wn, hwn⟩ : ∃ wn, w.alloc (.cells #[.int .i64 ((1 : Nat) : Int), .string s, .pointer none, .pointer none, .pointer none] 46) = wn := ⟨_, rfl⟩
 have HB : Hid (Below w.heap.size w wn) := by rw [← hwn]; exact alloc_below w _
 have HV : Hid (VB wn w.heap.size 1 s (.pointer none) (.pointer none) (.pointer none)) := by rw [← hwn]; exact VB.new w 1 s _ _ _
 go_enter Tryz.func29, Tryz.ntmps29
 go_wp2
 go_ret
 have HW : Hid (w.alloc (.cells #[.int .i64 1, .string s, .pointer none, .pointer none, .pointer none] 46) = wn) := hwn
 try rw [HW.out]
 exact ⟨HB.out, _, rfl, ⟨⟨s, _, _, _, HV.out, rfl, rfl, rfl, rfl, rfl⟩, Nat.le_refl _, HB.out.size⟩⟩
theorem PV.hash {w : World} {B v : Nat} {es : List En} {one : Bool} {F : List Nat} (h : PV w B v (.hsh es) one F) : ∃ m x E T, VB w v 2 ⟨#[]⟩ (ptr m) (.pointer none) (.pointer none) ∧ Hm w B m x E T es one F := by
 obtain ⟨⟨t, a, b, c, h1, h2⟩, -, -⟩ := h
 obtain ⟨rfl, rfl, rfl, m, x, E, T, rfl, h5⟩ := h2
 exact ⟨m, x, E, T, h1, h5⟩
theorem PV.of_hash {w : World} {B v m x E T : Nat} {es : List En} {one : Bool} {F : List Nat} (h1 : VB w v 2 ⟨#[]⟩ (ptr m) (.pointer none) (.pointer none)) (h2 : Hm w B m x E T es one F) (hl : B ≤ v) : PV w B v (.hsh es) one F :=
 ⟨⟨_, _, _, _, h1, rfl, rfl, rfl, m, x, E, T, rfl, h2⟩, hl, h2.2.1⟩
theorem PV.set {w : World} {B v : Nat} {r : List ByteArray} {one : Bool} {F : List Nat} (h : PV w B v (.set r) one F) : ∃ m x E T, VB w v 3 ⟨#[]⟩ (.pointer none) (ptr m) (.pointer none) ∧ Zs.Ss w B m x E T r one F := by
 obtain ⟨⟨t, a, b, c, h1, h2⟩, -, -⟩ := h
 obtain ⟨rfl, rfl, rfl, m, x, E, T, rfl, h5⟩ := h2
 exact ⟨m, x, E, T, h1, h5⟩
theorem PV.of_set {w : World} {B v m x E T : Nat} {r : List ByteArray} {one : Bool} {F : List Nat} (h1 : VB w v 3 ⟨#[]⟩ (.pointer none) (ptr m) (.pointer none)) (h2 : Zs.Ss w B m x E T r one F) (hl : B ≤ v) : PV w B v (.set r) one F :=
 ⟨⟨_, _, _, _, h1, rfl, rfl, rfl, m, x, E, T, rfl, h2⟩, hl, h2.2.1⟩
theorem PV.list {w : World} {B v : Nat} {r : List ByteArray} {one : Bool} {F : List Nat} (h : PV w B v (.lst r) one F) : ∃ m most q, VB w v 4 ⟨#[]⟩ (.pointer none) (.pointer none) (ptr m) ∧ QV w B m most r q F ∧ one = decide (q ≤ 1) := by
 obtain ⟨⟨t, a, b, c, h1, h2⟩, -, -⟩ := h
 obtain ⟨rfl, rfl, rfl, m, most, q, rfl, h5, h6⟩ := h2
 exact ⟨m, most, q, h1, h5, h6⟩
theorem PV.of_list {w : World} {B v m most q : Nat} {r : List ByteArray} {F : List Nat} (h1 : VB w v 4 ⟨#[]⟩ (.pointer none) (.pointer none) (ptr m)) (h2 : QV w B m most r q F) (hl : B ≤ v) : PV w B v (.lst r) (decide (q ≤ 1)) F :=
 ⟨⟨_, _, _, _, h1, rfl, rfl, rfl, m, most, q, rfl, h2, rfl⟩, hl, h2.low⟩
theorem htagV : htag 46 = false := by decide
theorem htagZ : Zs.htag 46 = false := by decide
theorem VB.hto {w w' : World} {v k : Nat} {t : ByteArray} {h s l : Value} {B m x E T : Nat} {es gs : List En} {pk pk' : Bool} {F : List Nat} (b : VB w v k t h s l) (hH : Hm w B m x E T es pk F) (ht : HTo w w' B m x E T gs pk' F) : VB w' v k t h s l := by
 obtain ⟨F', -, h2, -⟩ := ht
 refine b.kept (h2.block v b.lt (fun hm => ?_))
 obtain ⟨-, -, cs, t', h3, h4⟩ := hH.tags v hm
 rw [b.blk] at h3
 injection h3 with h3
 injection h3 with _ h5
 subst h5
 rw [htagV] at h4; cases h4
theorem VB.sto {w w' : World} {v k : Nat} {t : ByteArray} {h s l : Value} {B m x E T : Nat} {es gs : List ByteArray} {pk pk' : Bool} {F : List Nat} (b : VB w v k t h s l) (hH : Zs.Ss w B m x E T es pk F) (ht : Zs.STo w w' B m x E T gs pk' F) : VB w' v k t h s l := by
 obtain ⟨F', -, h2, -⟩ := ht
 refine b.kept (h2.block v b.lt (fun hm => ?_))
 obtain ⟨-, -, cs, t', h3, h4⟩ := hH.tags v hm
 rw [b.blk] at h3
 injection h3 with h3
 injection h3 with _ h5
 subst h5
 rw [htagZ] at h4; cases h4
theorem VB.qto {w w' : World} {v k : Nat} {t : ByteArray} {h s l : Value} {B m most q : Nat} {es gs : List ByteArray} {F : List Nat} (b : VB w v k t h s l) (hH : QV w B m most es q F) (ht : VDoes w B m most gs F w') : VB w' v k t h s l := by
 obtain ⟨q', F', -, h2⟩ := ht
 refine b.kept (h2.stay.block v b.lt (fun hm => ?_))
 obtain ⟨cs, t', h3, -, h4, -⟩ := hH.tags v hm
 rw [b.blk] at h3
 injection h3 with h3
 injection h3 with _ h5
 exact h4 h5.symm
set_option maxRecDepth 100000 in
theorem New_h (x : Nat) (e t : Int) (w : World) (hx : x < 18446744073709551616) :
  Calls Tryz.prog 20 #[.int .i64 2, .int .u64 x, .agg #[.int .i64 e, .int .i64 t]] w fun en w' => Below w.heap.size w w' ∧ ∃ v F, en = .returned (ptr v) ∧ PV w' w.heap.size v (.hsh []) true F := by
 obtain ⟨w0, hw0⟩ : ∃ w0, w.alloc (.cells #[.int .i64 e, .int .i64 t] 28) = w0 := ⟨_, rfl⟩
 have HB0 : Hid (Below w.heap.size w w0) := by rw [← hw0]; exact alloc_below w _
 have HN := NewH x e t w0 hx
 have hc0 : w0.cell? ⟨w.heap.size, 0, none⟩ = some (.int .i64 e) := by rw [← hw0]; exact cell_new w _ _ 0 _ rfl
 have hc1 : w0.cell? ⟨w.heap.size, 1, none⟩ = some (.int .i64 t) := by rw [← hw0]; exact cell_new w _ _ 1 _ rfl
 go_enter Tryz.func20, Tryz.ntmps20
 go_wp2_with fail
 refine HN.mono ?_
 rintro en w1 ⟨hb, m, F, rfl, hH⟩
 have HB1 := step_below HB0 hb
 have hBe := alloc_below w1 (.cells #[.int .i64 2, .string ⟨#[]⟩, ptr m, .pointer none, .pointer none] 46)
 have HR : Hid (PV (w1.alloc (.cells #[.int .i64 2, .string ⟨#[]⟩, ptr m, .pointer none, .pointer none] 46)) w.heap.size w1.heap.size (.hsh []) true F) := PV.of_hash (VB.new w1 2 _ _ _ _) ((Hm.lower hH HB0.out.size).keep hBe) HB1.out.size
 have HB2 := step_below HB1 hBe
 clear hb hH HN hBe
 go_wp2
 go_ret
 exact ⟨HB2.out, _, F, rfl, HR.out⟩
set_option maxRecDepth 100000 in
theorem New_s (x : Nat) (e t : Int) (w : World) (hx : x < 18446744073709551616) :
  Calls Tryz.prog 20 #[.int .i64 3, .int .u64 x, .agg #[.int .i64 e, .int .i64 t]] w fun en w' => Below w.heap.size w w' ∧ ∃ v F, en = .returned (ptr v) ∧ PV w' w.heap.size v (.set []) true F := by
 obtain ⟨w0, hw0⟩ : ∃ w0, w.alloc (.cells #[.int .i64 e, .int .i64 t] 28) = w0 := ⟨_, rfl⟩
 have HB0 : Hid (Below w.heap.size w w0) := by rw [← hw0]; exact alloc_below w _
 have HN := Zs.NewS x e t w0 hx
 have hc0 : w0.cell? ⟨w.heap.size, 0, none⟩ = some (.int .i64 e) := by rw [← hw0]; exact cell_new w _ _ 0 _ rfl
 have hc1 : w0.cell? ⟨w.heap.size, 1, none⟩ = some (.int .i64 t) := by rw [← hw0]; exact cell_new w _ _ 1 _ rfl
 go_enter Tryz.func20, Tryz.ntmps20
 go_wp2_with fail
 refine HN.mono ?_
 rintro en w1 ⟨hb, m, F, rfl, hH⟩
 have HB1 := step_below HB0 hb
 have hBe := alloc_below w1 (.cells #[.int .i64 3, .string ⟨#[]⟩, .pointer none, ptr m, .pointer none] 46)
 have HR : Hid (PV (w1.alloc (.cells #[.int .i64 3, .string ⟨#[]⟩, .pointer none, ptr m, .pointer none] 46)) w.heap.size w1.heap.size (.set []) true F) := PV.of_set (VB.new w1 3 _ _ _ _) ((Zs.Ss.lower hH HB0.out.size).keep hBe) HB1.out.size
 have HB2 := step_below HB1 hBe
 clear hb hH HN hBe
 go_wp2
 go_ret
 exact ⟨HB2.out, _, F, rfl, HR.out⟩
set_option maxRecDepth 100000 in
theorem New_l (x : Nat) (e t : Int) (w : World) :
  Calls Tryz.prog 20 #[.int .i64 4, .int .u64 x, .agg #[.int .i64 e, .int .i64 t]] w fun en w' => Below w.heap.size w w' ∧ ∃ v F, en = .returned (ptr v) ∧ PV w' w.heap.size v (.lst []) true F := by
 obtain ⟨w0, hw0⟩ : ∃ w0, w.alloc (.cells #[.int .i64 e, .int .i64 t] 28) = w0 := ⟨_, rfl⟩
 have HB0 : Hid (Below w.heap.size w w0) := by rw [← hw0]; exact alloc_below w _
 obtain ⟨mo, hmo⟩ : ∃ mo : Nat, max e 1 = mo := ⟨(max e 1).toNat, by omega⟩
 have HN := VNew e w0 mo hmo
 clear hmo
 have hc0 : w0.cell? ⟨w.heap.size, 0, none⟩ = some (.int .i64 e) := by rw [← hw0]; exact cell_new w _ _ 0 _ rfl
 have hc1 : w0.cell? ⟨w.heap.size, 1, none⟩ = some (.int .i64 t) := by rw [← hw0]; exact cell_new w _ _ 1 _ rfl
 go_enter Tryz.func20, Tryz.ntmps20
 go_wp2_with fail
 refine HN.mono ?_
 rintro en w1 ⟨hb, m, F, rfl, hH⟩
 have HB1 := step_below HB0 hb
 have hBe := alloc_below w1 (.cells #[.int .i64 4, .string ⟨#[]⟩, .pointer none, .pointer none, ptr m] 46)
 have HR : Hid (PV (w1.alloc (.cells #[.int .i64 4, .string ⟨#[]⟩, .pointer none, .pointer none, ptr m] 46)) w.heap.size w1.heap.size (.lst []) true F) := PV.of_list (q := 0) (VB.new w1 4 _ _ _ _) ((QV.down hH HB0.out.size).keep hBe) HB1.out.size
 have HB2 := step_below HB1 hBe
 clear hb hH HN hBe
 go_wp2
 go_ret
 exact ⟨HB2.out, _, F, rfl, HR.out⟩
theorem New_none (x : Nat) (e t : Int) (w : World) (k : Int) (hk : k = 0 ∨ k = 9) :
  Calls Tryz.prog 20 #[.int .i64 k, .int .u64 x, .agg #[.int .i64 e, .int .i64 t]] w fun en w' => en = .returned (.pointer none) ∧ Below w.heap.size w w' := by
 have hba := alloc_below w (.cells #[.int .i64 e, .int .i64 t] 28)
 have HBa : Hid (Below w.heap.size w (w.alloc (.cells #[.int .i64 e, .int .i64 t] 28))) := hba
 clear hba
 rcases hk with rfl | rfl
 all_goals
  go_enter Tryz.func20, Tryz.ntmps20
  go_wp2
  go_ret
  exact ⟨rfl, HBa.out⟩
theorem Tryz.infoV : (Tryz.prog.info? 46).map (fun i => i.size) = some 5 := by kernel_rfl
theorem infoV_ex : ∃ j, Tryz.prog.info? 46 = some j ∧ j.size ≠ 0 := by
 have h := Tryz.infoV
 cases hj : Tryz.prog.info? 46 with
 | none => rw [hj] at h; cases h
 | some j =>
  rw [hj] at h
  refine ⟨j, rfl, ?_⟩
  have : j.size = 5 := Option.some.inj h
  omega
theorem eqlV_nil (w : World) (v : Nat) : (binOp .eql 31 (.pointer none) (ptr v)).run Tryz.prog w = .ok (.bool false) w := by
 have hh : ∀ d : Nat, (Op.equalIn (d + 1) 31 (.pointer none) (ptr v)).run Tryz.prog w = .ok false w := fun d => by
  simp [Op.equalIn, run_underlying Tryz.underlying31]
 simp only [binOp]
 simp [Op.equal, Op.maxDepth, hh 9999]
theorem eqlV_other {w : World} {k q : Nat} {ca cb : Array Value} {ta tb : TypeId} (h : k ≠ q) (ha : w.heap[k]? = some (.cells ca ta (0, 0))) (hb : w.heap[q]? = some (.cells cb tb (0, 0))) : (binOp .eql 31 (ptr k) (ptr q)).run Tryz.prog w = .ok (.bool false) w := by
 obtain ⟨j, hj, hs⟩ := infoV_ex
 exact run_eql_ptr_other w Tryz.underlying31 hj hs (by intro e; injection e with e1; exact h e1) ha hb
theorem Same_nils (w : World) : Calls Tryz.prog 11 #[.pointer none, .pointer none] w fun e w' => e = .returned (.bool true) ∧ w' = w := by
 go_enter Tryz.func11, Tryz.ntmps11
 go_wp2
 go_ret
 exact ⟨rfl, rfl⟩
set_option maxRecDepth 100000 in
theorem Same_left (w : World) (B v : Nat) (d : VD) (one : Bool) (F : List Nat) (h : PV w B v d one F) : Calls Tryz.prog 11 #[.pointer none, ptr v] w fun e w' => e = .returned (.bool false) ∧ w' = w := by
 have HK := kind_any w B v d one F h
 have hk := d.kind_le
 clear h
 generalize d.kind = k at HK hk
 have hne : ¬ (0 : Int) = (k : Int) := by omega
 have hq := eqlV_nil w v
 go_enter Tryz.func11, Tryz.ntmps11
 go_wp2_with fail
 refine (kind_nil w).mono ?_
 rintro e w ⟨rfl, rfl⟩
 go_wp2_with fail
 refine HK.mono ?_
 rintro e w ⟨rfl, rfl⟩
 go_wp2
 go_ret
 exact ⟨rfl, rfl⟩
set_option maxRecDepth 100000 in
theorem Same_right (w : World) (B v : Nat) (d : VD) (one : Bool) (F : List Nat) (h : PV w B v d one F) : Calls Tryz.prog 11 #[ptr v, .pointer none] w fun e w' => e = .returned (.bool false) ∧ w' = w := by
 have HK := kind_any w B v d one F h
 have hk := d.kind_le
 clear h
 generalize d.kind = k at HK hk
 have hne : ¬ (k : Int) = 0 := by omega
 go_enter Tryz.func11, Tryz.ntmps11
 go_wp2_with fail
 refine HK.mono ?_
 rintro e w ⟨rfl, rfl⟩
 go_wp2_with fail
 refine (kind_nil _).mono ?_
 rintro e w ⟨rfl, rfl⟩
 go_wp2
 go_ret
 exact ⟨rfl, rfl⟩
set_option maxRecDepth 100000 in
theorem known_v (w : World) : Calls Tryz.prog 10 #[] w fun e w' => e = .returned (.bool true) ∧ Below w.heap.size w w' := by
 have HO := OfText_any ⟨#[49, 50]⟩ w
 go_enter Tryz.func10, Tryz.ntmps10
 go_wp2_with fail
 refine HO.mono ?_
 rintro en w1 ⟨hb, v, rfl, hV⟩
 have HB1 : Hid (Below w.heap.size w w1) := hb
 have HV : Hid (PV w1 w.heap.size v (.txt ⟨#[49, 50]⟩) true []) := hV
 have HE := EncodingV w1 _ v _ true [] hV (by show 2 ≤ 100; decide)
 have he : VD.enc (.txt ⟨#[49, 50]⟩) true = nInt := by decide +kernel
 rw [he] at HE
 clear hb hV HO he
 go_wp2_with fail
 refine HE.mono ?_
 rintro en w2 ⟨rfl, hb⟩
 have HB2 := step_below HB1 hb
 have HT := TypeV w2 _ v _ true [] (HV.out.keep hb)
 replace HT : Calls Tryz.prog 23 #[ptr v] w2 fun e w' => e = .returned (.string ⟨#[115, 116, 114, 105, 110, 103]⟩) ∧ w' = w2 := HT
 clear hb HE
 go_wp2_with fail
 refine HT.mono ?_
 rintro en w2 ⟨rfl, rfl⟩
 clear HT
 go_wp2_with fail
 refine (New_none 1 0 0 _ 9 (.inr rfl)).mono ?_
 rintro en w3 ⟨rfl, hb⟩
 have HB3 := step_below HB2 hb
 clear hb
 go_wp2_with fail
 refine (OfText_any ⟨#[]⟩ w3).mono ?_
 rintro en w4 ⟨hb, v2, rfl, hV2⟩
 have HB4 := step_below HB3 hb
 have HS := Same_left w4 _ v2 _ true [] hV2
 clear hb hV2
 go_wp2_with fail
 refine HS.mono ?_
 rintro en w4 ⟨rfl, rfl⟩
 clear HS
 go_wp2_with fail
 refine (Same_nils _).mono ?_
 rintro en w4 ⟨rfl, rfl⟩
 go_wp2
 go_ret
 exact ⟨rfl, HB4.out⟩
end Go.Proofs.YtikimcbalkhooaaGreat
