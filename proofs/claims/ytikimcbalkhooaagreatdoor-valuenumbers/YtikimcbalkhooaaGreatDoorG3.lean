/- Texts that the others stand on. -/
import Derived.Test.YtikimcbalkhooaaGreatDoorG1
import Derived.Test.YtikimcbalkhooaaGreatDoorG2
import Derived.Deep.RegionHeld3
namespace Go.Proofs.YtikimcbalkhooaaGreatDoor
open Go.RowKit Go.PlainAid
open Dk (En Stay hasK putE delE getE keysOf Dct Dg dtag)
/-- Pairs as a row of texts: each field just ahead of its value. -/
def flat (es : List En) : List ByteArray := es.flatMap fun e => [e.1, e.2]
theorem flat_cons (e : En) (es : List En) : flat (e :: es) = e.1 :: e.2 :: flat es := rfl
theorem flat_len (es : List En) : (flat es).length = 2 * es.length := by
  induction es with
  | nil => rfl
  | cons e es ih => rw [flat_cons, List.length_cons, List.length_cons, List.length_cons, ih]; omega
/-- No text of these pairs is longer. -/
def Sz (T : Nat) (es : List En) : Prop := ∀ e ∈ es, e.1.size ≤ T ∧ e.2.size ≤ T
theorem flat_size {T : Nat} {es : List En} (h : Sz T es) : ∀ s ∈ flat es, s.size ≤ T := by
  intro s hs
  obtain ⟨e, he, h1⟩ := List.mem_flatMap.1 hs
  simp only [List.mem_cons, List.not_mem_nil, or_false] at h1
  rcases h1 with rfl | rfl
  · exact (h e he).1
  · exact (h e he).2
theorem Sz.fit {T : Nat} {es : List En} (h : Sz T es) (hT : T ≤ 4096) : Fit (flat es) := fun s hs => Nat.le_trans (flat_size h s hs) hT
theorem Sz.mono {T U : Nat} {es : List En} (h : Sz T es) (hT : T ≤ U) : Sz U es := fun e he => ⟨Nat.le_trans (h e he).1 hT, Nat.le_trans (h e he).2 hT⟩
theorem Sz.perm {T : Nat} {es fs : List En} (h : Sz T es) (hp : es.Perm fs) : Sz T fs := fun e he => h e (hp.mem_iff.2 he)
theorem Sz.put {T : Nat} {es : List En} (h : Sz T es) {k v : ByteArray} (hk : k.size ≤ T) (hv : v.size ≤ T) : Sz T (putE es k v) := by
  intro e he
  unfold putE at he
  split at he
  · obtain ⟨f, hf, rfl⟩ := List.mem_map.1 he
    split
    · exact ⟨hk, hv⟩
    · exact h f hf
  · rcases List.mem_append.1 he with h1 | h1
    · exact h e h1
    · simp only [List.mem_singleton] at h1; subst h1; exact ⟨hk, hv⟩
theorem enc_len62 {l : List UInt8} (h : l.length ≤ 60) : (enc l).length ≤ 62 := by
  have hb : (body l).length ≤ 61 := by
    rcases body_ways l with ⟨n, h0, h1, e⟩ | ⟨n, h0, h1, e⟩ | ⟨h0, h1, e⟩ | ⟨h0, h1, e⟩ <;> rw [e]
    · simp
    · rw [List.length_cons, be_len]; omega
    · simp; omega
    · omega
  have h2 := back_len (body l).length
  unfold enc
  rw [List.length_append]
  split at h2 <;> omega
theorem pack_len62 (ls : List ByteArray) (h : ∀ s ∈ ls, s.size ≤ 60) : (pack ls).length ≤ 62 * ls.length := by
  induction ls with
  | nil => simp [pack]
  | cons s l ih =>
    have h1 := enc_len62 (l := lst s) (by rw [len_lst]; exact h s (by simp))
    have h2 := ih (fun t ht => h t (List.mem_cons_of_mem _ ht))
    rw [pack, List.length_append, List.length_cons]
    omega
/-- A hash's own block. -/
structure Hb (w : World) (m x E T : Nat) (s l : Value) : Prop where
  blk : w.heap[m]? = some (.cells #[.int .u64 (x : Nat), .int .i64 (E : Nat), .int .i64 (T : Nat), s, l] 84 (0, 0))
theorem Hb.lt {w : World} {m x E T : Nat} {s l : Value} (h : Hb w m x E T s l) : m < w.heap.size := (Array.getElem?_eq_some_iff.1 h.blk).1
theorem Hb.kept {w wn : World} {m x E T : Nat} {s l : Value} (h : Hb w m x E T s l) (hb : wn.heap[m]? = w.heap[m]?) : Hb wn m x E T s l := ⟨by rw [hb]; exact h.blk⟩
theorem Hb.keep {w wn : World} {m x E T : Nat} {s l : Value} (h : Hb w m x E T s l) (hb : Below w.heap.size w wn) : Hb wn m x E T s l := h.kept (hb.block m h.lt)
theorem Hb.cs {w : World} {m x E T : Nat} {s l : Value} (h : Hb w m x E T s l) : w.cell? ⟨m, 3, none⟩ = some s := by simp [World.cell?, h.blk]
theorem Hb.cl {w : World} {m x E T : Nat} {s l : Value} (h : Hb w m x E T s l) : w.cell? ⟨m, 4, none⟩ = some l := by simp [World.cell?, h.blk]
/-- The blocks of a pack. -/
def pfp (p : Nat) (a : Option Addr) : List Nat := p :: (a.map (·.block)).toList
/-- A packed hash. -/
structure Small (w : World) (B m x E T p : Nat) (a : Option Addr) (n c : Nat) (es : List En) : Prop where
  blk : Hb w m x E T (ptr p) (.pointer none)
  pk : Pk w B p a n c (flat es)
  low : B ≤ m
  le : es.length ≤ E
  sz : Sz T es
  nod : (keysOf es).Nodup
  hE : E ≤ 512
  hT : T ≤ 60
/-- One with a dict. -/
structure Large (w : World) (B m x E T d : Nat) (D : Dg) : Prop where
  blk : Hb w m x E T (.pointer none) (ptr d)
  dc : Dct w B d x D
  low : B ≤ m
  sz : Sz 4096 D.es
  hE : E ≤ 512
  hT : T ≤ 60
theorem Small.keep {w wn : World} {B m x E T p : Nat} {a : Option Addr} {n c : Nat} {es : List En} (h : Small w B m x E T p a n c es) (hb : Below w.heap.size w wn) : Small wn B m x E T p a n c es := ⟨h.blk.keep hb, h.pk.keep hb, h.low, h.le, h.sz, h.nod, h.hE, h.hT⟩
theorem Large.keep {w wn : World} {B m x E T d : Nat} {D : Dg} (h : Large w B m x E T d D) (hb : Below w.heap.size w wn) : Large wn B m x E T d D := ⟨h.blk.keep hb, h.dc.keep hb, h.low, h.sz, h.hE, h.hT⟩
theorem Small.fit {w : World} {B m x E T p : Nat} {a : Option Addr} {n c : Nat} {es : List En} (h : Small w B m x E T p a n c es) : Fit (flat es) := h.sz.fit (by have := h.hT; omega)
theorem Small.n {w : World} {B m x E T p : Nat} {a : Option Addr} {n c : Nat} {es : List En} (h : Small w B m x E T p a n c es) : n ≤ 124 * es.length := by
  have h1 := pack_len62 (flat es) (flat_size (h.sz.mono h.hT))
  rw [flat_len] at h1
  have := h.pk.len
  omega
theorem Small.max {w : World} {B m x E T p : Nat} {a : Option Addr} {n c : Nat} {es : List En} (h : Small w B m x E T p a n c es) : n ≤ 63488 := by
  have := h.n; have := h.le; have := h.hE; omega
theorem Packed_yes (m x E T : Nat) (s : Value) (w : World) (h : Hb w m x E T s (.pointer none)) : Calls Tryz.prog 27 #[ptr m] w fun e w' => e = .returned (.bool true) ∧ w' = w := by
  have hc := h.cl
  clear h
  go_enter Tryz.func27, Tryz.ntmps27
  go_wp2
  go_ret
  exact ⟨rfl, rfl⟩
theorem Packed_no (m x E T d : Nat) (s : Value) (w : World) (h : Hb w m x E T s (ptr d)) : Calls Tryz.prog 27 #[ptr m] w fun e w' => e = .returned (.bool false) ∧ w' = w := by
  have hc := h.cl
  clear h
  go_enter Tryz.func27, Tryz.ntmps27
  go_wp2
  go_ret
  exact ⟨rfl, rfl⟩
theorem Len_small (B m x E T p : Nat) (a : Option Addr) (n c : Nat) (es : List En) (w : World) (h : Small w B m x E T p a n c es) : Calls Tryz.prog 18 #[ptr m] w fun e w' => e = .returned (.int .i64 (es.length : Nat)) ∧ Below w.heap.size w w' := by
  have hc := h.blk.cs
  have HP := Packed_yes m x E T _ w h.blk
  have HL := Len_any B p a n c (flat es) w h.pk
  rw [flat_len] at HL
  obtain ⟨k, hk⟩ : ∃ k, es.length = k := ⟨_, rfl⟩
  rw [hk] at HL ⊢
  have hk2 : k ≤ 512 := by have := h.le; have := h.hE; omega
  have hq : ((2 * k : Nat) : Int).tdiv 2 = (k : Int) := by rw [Int.tdiv_eq_ediv_of_nonneg (by omega)]; omega
  clear h hk
  go_enter Tryz.func18, Tryz.ntmps18
  go_wp2_with fail
  refine HP.mono ?_
  rintro e w1 ⟨rfl, rfl⟩
  go_wp2_with fail
  refine HL.mono ?_
  rintro e w1 ⟨rfl, rfl⟩
  go_wp2
  go_ret
  exact ⟨rfl, Below.refl _ _⟩
theorem Len_large (B m x E T d : Nat) (D : Dg) (w : World) (h : Large w B m x E T d D) : Calls Tryz.prog 18 #[ptr m] w fun e w' => e = .returned (.int .i64 (D.es.length : Nat)) ∧ Below w.heap.size w w' := by
  have hc := h.blk.cl
  have HP := Packed_no m x E T d _ w h.blk
  have HL := Dk.Len_dict B d x D w h.dc
  generalize D.es.length = k at HL ⊢
  clear h
  go_enter Tryz.func18, Tryz.ntmps18
  go_wp2_with fail
  refine HP.mono ?_
  rintro e w1 ⟨rfl, rfl⟩
  go_wp2_with fail
  refine HL.mono ?_
  rintro e w1 ⟨rfl, rfl⟩
  go_wp2
  go_ret
  exact ⟨rfl, Below.refl _ _⟩
theorem Small.np {w : World} {B m x E T p : Nat} {a : Option Addr} {n c : Nat} {es : List En} (h : Small w B m x E T p a n c es) : m ≠ p := by
  rintro rfl
  have h1 := h.blk.blk
  rw [h.pk.blk] at h1
  simp at h1
theorem Small.nr {w : World} {B m x E T p : Nat} {a : Option Addr} {n c : Nat} {es : List En} (h : Small w B m x E T p a n c es) : some m ≠ a.map (·.block) := by
  intro hk
  obtain ⟨-, -, cur, h3⟩ := Dk.OwnR.lt (h.pk.own : Dk.OwnR w B 5 1 a n c _) hk.symm
  have h1 := h.blk.blk
  rw [h3] at h1
  simp at h1
/-- What a call leaves that turns a packed hash. -/
def SmallTo (w w' : World) (B m x E T p : Nat) (a : Option Addr) (es : List En) : Prop := Moves w w' p a ∧ ∃ a' n' c', Small w' B m x E T p a' n' c' es ∧ Went w a a'
theorem Small.to {w w' : World} {B m x E T p : Nat} {a : Option Addr} {n c : Nat} {es fs : List En} (h : Small w B m x E T p a n c es) {v : Value} {e : Ending} (ht : Turns w B p a (flat fs) v e w') (hl : fs.length ≤ E) (hs : Sz T fs) (hn : (keysOf fs).Nodup) : SmallTo w w' B m x E T p a fs := by
  obtain ⟨-, hm, a', n', c', hp, hw⟩ := ht
  exact ⟨hm, a', n', c', ⟨h.blk.kept (hm.block m h.blk.lt h.np h.nr), hp, h.low, hl, hs, hn, h.hE, h.hT⟩, hw⟩
end Go.Proofs.YtikimcbalkhooaaGreatDoor
namespace Go.Proofs.YtikimcbalkhooaaGreatDoor
open Go.RowKit Go.PlainAid
open Dk (En Stay hasK putE delE getE keysOf Dct Dg dtag ecells)
/-- A row of pairs of the call's own. -/
abbrev OwnQ (w : World) (B : Nat) (a : Option Addr) (n cap : Nat) (es : List En) : Prop := Dk.OwnR w B 61 2 a n cap (ecells es)
theorem OwnQ.len {w : World} {B : Nat} {a : Option Addr} {n cap : Nat} {es : List En} (h : OwnQ w B a n cap es) : es.length = n := by have := Dk.OwnR.len h; rw [Dk.ecells_len] at this; omega
theorem OwnQ.cell {w : World} {B : Nat} {a : Option Addr} {n cap : Nat} {es : List En} (h : OwnQ w B a n cap es) {j : Nat} (hj : j < n) : ∃ g, a = some ⟨g, 0, none⟩ ∧ w.cell? ⟨g, j * 2, none⟩ = some (.string (es.getD j (⟨#[]⟩, ⟨#[]⟩)).1) ∧ w.cell? ⟨g, j * 2 + 1, none⟩ = some (.string (es.getD j (⟨#[]⟩, ⟨#[]⟩)).2) := by
  obtain ⟨g, h1, h2⟩ := Dk.OwnR.at h (by omega)
  have := OwnQ.len h
  have := Dk.ecells_get es j (by omega)
  exact ⟨g, h1, h2 _ _ this.1, h2 _ _ this.2⟩
/-- A limit, as it counts. -/
def lim (z : Int) (hi : Nat) : Nat := (min (max z 0) hi).toNat
theorem lim_le (z : Int) (hi : Nat) : lim z hi ≤ hi := by unfold lim; omega
set_option maxRecDepth 100000 in
set_option maxHeartbeats 4000000 in
theorem New_hm (x : Nat) (e t : Int) (w : World) :
    Calls Tryz.prog 43 #[.int .u64 x, .agg #[.int .i64 e, .int .i64 t]] w fun en w' => Below w.heap.size w w' ∧ ∃ m p a n c, en = .returned (ptr m) ∧ Small w' w.heap.size m x (lim e 512) (lim t 60) p a n c [] := by
  obtain ⟨E, hE⟩ : ∃ E, lim e 512 = E := ⟨_, rfl⟩
  obtain ⟨T, hT⟩ : ∃ T, lim t 60 = T := ⟨_, rfl⟩
  have HE : Hid (lim e 512 = E) := hE
  have HT : Hid (lim t 60 = T) := hT
  rw [hE, hT]
  clear hE hT
  obtain ⟨wa, hwa⟩ : ∃ wa, wa = w.alloc (.cells #[.int .i64 (E : Nat), .int .i64 (T : Nat)] 39) := ⟨_, rfl⟩
  go_enter Tryz.func43, Tryz.ntmps43
  go_upto_region 1 with fail
  go_cut [4] from 5 to 9 (fun v wx => v = .pointer none ∧ wx = w.alloc (.cells #[.int .i64 (E : Nat), .int .i64 t] 39))
  case first =>
    go_wp2
    all_goals
      go_meet
      have h1 := HE.out
      unfold lim at h1
      refine ⟨rfl, ?_⟩
      first
        | rw [show ((E : Nat) : Int) = 0 by omega]
        | rw [show ((E : Nat) : Int) = 512 by omega]
        | rw [show ((E : Nat) : Int) = e by omega]
  case rest =>
  obtain ⟨rfl, rfl⟩ := hcut
  go_upto_region 2 with fail
  go_cut [4] from 10 to 14 (fun v wx => v = .pointer none ∧ wa = wx)
  case first =>
    go_wp2
    all_goals
      go_meet
      have h1 := HT.out
      unfold lim at h1
      refine ⟨rfl, ?_⟩
      rw [hwa]
      first
        | rw [show ((T : Nat) : Int) = 0 by omega]
        | rw [show ((T : Nat) : Int) = 60 by omega]
        | rw [show ((T : Nat) : Int) = t by omega]
  case rest =>
  obtain ⟨rfl, rfl⟩ := hcut
  have hba : Below w.heap.size w wa := by rw [hwa]; exact alloc_below w _
  have hbd : Below w.heap.size w wa.drew := hba.trans ((below_drewN wa 1).mono hba.size)
  have hsz : w.heap.size < wa.drew.heap.size := by
    show w.heap.size < wa.heap.size
    rw [hwa]
    exact (Array.getElem?_eq_some_iff.1 (heap_alloc_new w _)).1
  have hc1 : wa.drew.cell? ⟨w.heap.size, 0, none⟩ = some (.int .i64 (E : Nat)) := by subst hwa; simp
  have hc2 : wa.drew.cell? ⟨w.heap.size, 1, none⟩ = some (.int .i64 (T : Nat)) := by subst hwa; simp
  have HN := New_any wa.drew
  have HBd : Hid (Below w.heap.size w wa.drew) := hbd
  have HCk : Hid (∀ w2, Below wa.drew.heap.size wa.drew w2 → w2.cell? ⟨w.heap.size, 0, none⟩ = some (.int .i64 (E : Nat)) ∧ w2.cell? ⟨w.heap.size, 1, none⟩ = some (.int .i64 (T : Nat))) := fun w2 hb => ⟨by rw [hb.cell (p := ⟨w.heap.size, 0, none⟩) hsz]; exact hc1, by rw [hb.cell (p := ⟨w.heap.size, 1, none⟩) hsz]; exact hc2⟩
  clear hwa hba hbd hsz
  go_wp2_with fail
  go_region_with (go_at_call 76; refine HN.mono ?_; rintro e1 w2 ⟨hb, p, a, n, c, rfl, hP⟩; obtain ⟨hk1, hk2⟩ := HCk.out w2 hb; have HB2 := step_below HBd hb; have HP2 : Hid (Pk w2 w.heap.size p a n c []) := hP.low' HBd.out.size; clear hb hP)
  all_goals
    have HR : Hid (Small (w2.alloc (.cells #[.int .u64 (x : Nat), .int .i64 (E : Nat), .int .i64 (T : Nat), ptr p, .pointer none] 84)) w.heap.size w2.heap.size x E T p a n c []) :=
      Small.mk (Hb.mk (heap_alloc_new w2 _)) (HP2.out.keep (alloc_below w2 _)) HB2.out.size (Nat.zero_le _) (fun _ h => absurd h List.not_mem_nil) List.nodup_nil (HE.out ▸ lim_le e 512) (HT.out ▸ lim_le t 60)
    go_wp2
    go_ret
    exact ⟨HB2.out.trans ((alloc_below w2 _).mono HB2.out.size), _, p, a, n, c, rfl, HR.out⟩
theorem Leaf.lower {w : World} {B C x : Nat} {f : Dk.Lf} (h : Dk.Leaf w B x f) (hC : C ≤ B) : Dk.Leaf w C x f :=
  ⟨h.blk, Dk.OwnR.low h.row hC, fun t ht => (h.tab t ht).lower hC, Nat.le_trans hC h.low, h.nod, h.key, h.pos⟩
theorem Dct.lower {w : World} {B C d x : Nat} {D : Dg} (h : Dct w B d x D) (hC : C ≤ B) : Dct w C d x D :=
  ⟨h.blk, Dk.OwnR.low h.row hC, fun f hf => Leaf.lower (h.leaf f hf) hC, h.shp, h.dir, h.own, h.one, h.ful, h.nod, Nat.le_trans hC h.low, h.seed, h.le⟩
end Go.Proofs.YtikimcbalkhooaaGreatDoor
namespace Go.Proofs.YtikimcbalkhooaaGreatDoor
open Go.RowKit Go.PlainAid
open Dk (En Stay hasK putE delE getE keysOf Dct Dg dtag ecells Turn)
/-- What a Set leaves that lays the pairs into a dict. -/
def UnTo (w w' : World) (B m x E T d : Nat) (D : Dg) (es : List En) : Prop := Large w' B m x E T d D ∧ D.es.Perm es ∧ Stay w w' [m] ∧ (∀ k ∈ d :: D.pb :: Dk.fpL D.L, w.heap.size ≤ k)
theorem UnTo.keep {w w1 w2 : World} {B m x E T d : Nat} {D : Dg} {es : List En} (h : UnTo w w1 B m x E T d D es) (hb : Below w1.heap.size w1 w2) : UnTo w w2 B m x E T d D es :=
  ⟨h.1.keep hb, h.2.1, h.2.2.1.trans (M' := []) (Stay.of_below hb []) (fun _ hi => absurd hi List.not_mem_nil), h.2.2.2⟩
/-- The types of a hash's blocks. -/
def htag (t : TypeId) : Bool := dtag t || t == 84 || t == 120 || t == 5
/-- A hash at m, with the seed x and the limits E and T: it has es, is packed or not, lies in the blocks F. -/
def Hm (w : World) (B m x E T : Nat) (es : List En) (pk : Bool) (F : List Nat) : Prop :=
  x < 18446744073709551616 ∧ B ≤ w.heap.size ∧ ((pk = true ∧ ∃ p a n c fs, Small w B m x E T p a n c fs ∧ fs.Perm es ∧ F = m :: pfp p a) ∨ (pk = false ∧ ∃ d D, Large w B m x E T d D ∧ D.es.Perm es ∧ F = m :: d :: D.pb :: Dk.fpL D.L))
theorem Hm.keep {w wn : World} {B m x E T : Nat} {es : List En} {pk : Bool} {F : List Nat} (h : Hm w B m x E T es pk F) (hb : Below w.heap.size w wn) : Hm wn B m x E T es pk F := by
  obtain ⟨h1, h2, h3⟩ := h
  refine ⟨h1, Nat.le_trans h2 hb.size, ?_⟩
  rcases h3 with ⟨h3, p, a, n, c, fs, h4, h5⟩ | ⟨h3, d, D, h4, h5⟩
  · exact .inl ⟨h3, p, a, n, c, fs, h4.keep hb, h5⟩
  · exact .inr ⟨h3, d, D, h4.keep hb, h5⟩
theorem Hm.perm {w : World} {B m x E T : Nat} {es fs : List En} {pk : Bool} {F : List Nat} (h : Hm w B m x E T es pk F) (hp : es.Perm fs) : Hm w B m x E T fs pk F := by
  obtain ⟨h1, h2, h3⟩ := h
  refine ⟨h1, h2, ?_⟩
  rcases h3 with ⟨h3, p, a, n, c, gs, h4, h5, h6⟩ | ⟨h3, d, D, h4, h5, h6⟩
  · exact .inl ⟨h3, p, a, n, c, gs, h4, h5.trans hp, h6⟩
  · exact .inr ⟨h3, d, D, h4, h5.trans hp, h6⟩
theorem Hm.nod {w : World} {B m x E T : Nat} {es : List En} {pk : Bool} {F : List Nat} (h : Hm w B m x E T es pk F) : (keysOf es).Nodup := by
  obtain ⟨h1, h2, h3⟩ := h
  rcases h3 with ⟨h3, p, a, n, c, fs, h4, h5, h6⟩ | ⟨h3, d, D, h4, h5, h6⟩
  · exact (h5.map Prod.fst).nodup_iff.1 h4.nod
  · exact (h5.map Prod.fst).nodup_iff.1 h4.dc.nodk
theorem Hm.sz {w : World} {B m x E T : Nat} {es : List En} {pk : Bool} {F : List Nat} (h : Hm w B m x E T es pk F) : Sz 4096 es := by
  obtain ⟨h1, h2, h3⟩ := h
  rcases h3 with ⟨h3, p, a, n, c, fs, h4, h5, h6⟩ | ⟨h3, d, D, h4, h5, h6⟩
  · exact (h4.sz.mono (by have := h4.hT; omega)).perm h5
  · exact h4.sz.perm h5
theorem Hm.lim {w : World} {B m x E T : Nat} {es : List En} {pk : Bool} {F : List Nat} (h : Hm w B m x E T es pk F) : E ≤ 512 ∧ T ≤ 60 := by
  obtain ⟨h1, h2, h3⟩ := h
  rcases h3 with ⟨h3, p, a, n, c, fs, h4, h5, h6⟩ | ⟨h3, d, D, h4, h5, h6⟩
  · exact ⟨h4.hE, h4.hT⟩
  · exact ⟨h4.hE, h4.hT⟩
theorem Hm.le {w : World} {B m x E T : Nat} {es : List En} {F : List Nat} (h : Hm w B m x E T es true F) : es.length ≤ E ∧ Sz T es := by
  obtain ⟨h1, h2, h3⟩ := h
  rcases h3 with ⟨h3, p, a, n, c, fs, h4, h5, h6⟩ | ⟨h3, d, D, h4, h5, h6⟩
  · exact ⟨by rw [← h5.length_eq]; exact h4.le, h4.sz.perm h5⟩
  · cases h3
theorem mem_pfp {p : Nat} {a : Option Addr} {k : Nat} (h : k ∈ pfp p a) : k = p ∨ a.map (·.block) = some k := by
  unfold pfp at h
  rcases List.mem_cons.1 h with h | h
  · exact .inl h
  · exact .inr (Option.mem_toList.1 h)
theorem pfp_mem {p : Nat} {a : Option Addr} {k : Nat} (h : k = p ∨ a.map (·.block) = some k) : k ∈ pfp p a := by
  unfold pfp
  rcases h with h | h
  · exact List.mem_cons.2 (.inl h)
  · exact List.mem_cons.2 (.inr (Option.mem_toList.2 h))
/-- Each of its blocks: where it may lie, of what type it is. -/
theorem Hm.tags {w : World} {B m x E T : Nat} {es : List En} {pk : Bool} {F : List Nat} (h : Hm w B m x E T es pk F) : ∀ k ∈ F, B ≤ k ∧ k < w.heap.size ∧ ∃ cs t, w.heap[k]? = some (.cells cs t (0, 0)) ∧ htag t = true := by
  obtain ⟨h1, h2, h3⟩ := h
  intro k hk
  rcases h3 with ⟨h3, p, a, n, c, fs, h4, h5, rfl⟩ | ⟨h3, d, D, h4, h5, rfl⟩
  · rcases List.mem_cons.1 hk with rfl | hk
    · exact ⟨h4.low, h4.blk.lt, _, _, h4.blk.blk, rfl⟩
    rcases mem_pfp hk with rfl | hk
    · exact ⟨h4.pk.low, h4.pk.lt, _, _, h4.pk.blk, rfl⟩
    · obtain ⟨k1, k2, cur, k3⟩ := Dk.OwnR.lt (h4.pk.own : Dk.OwnR w B 5 1 a n c _) hk
      exact ⟨k1, k2, _, _, k3, rfl⟩
  · rcases List.mem_cons.1 hk with rfl | hk
    · exact ⟨h4.low, h4.blk.lt, _, _, h4.blk.blk, rfl⟩
    · obtain ⟨cs, t, k1, k2⟩ := h4.dc.tags k hk
      exact ⟨(h4.dc.fplt k hk).1, (h4.dc.fplt k hk).2, cs, t, k1, by unfold htag; rw [k2]; rfl⟩
theorem Hm.stay {w w' : World} {B m x E T : Nat} {es : List En} {pk : Bool} {F M : List Nat} (h : Hm w B m x E T es pk F) (hs : Stay w w' M) (hd : ∀ k ∈ F, k ∉ M) : Hm w' B m x E T es pk F := by
  obtain ⟨h1, h2, h3⟩ := h
  refine ⟨h1, Nat.le_trans h2 hs.size, ?_⟩
  rcases h3 with ⟨h3, p, a, n, c, fs, h4, h5, rfl⟩ | ⟨h3, d, D, h4, h5, rfl⟩
  · refine .inl ⟨h3, p, a, n, c, fs, ⟨h4.blk.kept (hs.block m h4.blk.lt (hd m (by simp))), ⟨?_, h4.pk.low, ?_⟩, h4.low, h4.le, h4.sz, h4.nod, h4.hE, h4.hT⟩, h5, rfl⟩
    · rw [hs.block p h4.pk.lt (hd p (List.mem_cons_of_mem _ (pfp_mem (.inl rfl))))]; exact h4.pk.blk
    · exact Dk.OwnR.stay (h4.pk.own : Dk.OwnR w B 5 1 a n c _) hs (fun k hk => hd k (List.mem_cons_of_mem _ (pfp_mem (.inr hk))))
  · exact .inr ⟨h3, d, D, ⟨h4.blk.kept (hs.block m h4.blk.lt (hd m (by simp))), h4.dc.stay hs (fun k hk => hd k (List.mem_cons_of_mem _ hk)), h4.low, h4.sz, h4.hE, h4.hT⟩, h5, rfl⟩
/-- What a call leaves that turns a hash. -/
def HTo (w w' : World) (B m x E T : Nat) (es : List En) (pk : Bool) (F : List Nat) : Prop := ∃ F', Hm w' B m x E T es pk F' ∧ Stay w w' F ∧ (∀ k ∈ F', k ∈ F ∨ w.heap.size ≤ k)
theorem HTo.below {w w' : World} {B m x E T : Nat} {es gs : List En} {pk pk' : Bool} {F : List Nat} (h : HTo w w' B m x E T es pk F) (h0 : Hm w B m x E T gs pk' F) : Below B w w' := by
  obtain ⟨F', -, h2, -⟩ := h
  exact h2.below (fun k hk => (h0.tags k hk).1) h0.2.1
theorem HTo.same {w w' : World} {B m x E T : Nat} {es : List En} {pk : Bool} {F : List Nat} (h : Hm w B m x E T es pk F) (hb : Below w.heap.size w w') : HTo w w' B m x E T es pk F := ⟨F, h.keep hb, Stay.of_below hb F, fun _ hk => .inl hk⟩
theorem NewH (x : Nat) (e t : Int) (w : World) (hx : x < 18446744073709551616) :
    Calls Tryz.prog 43 #[.int .u64 x, .agg #[.int .i64 e, .int .i64 t]] w fun en w' => Below w.heap.size w w' ∧ ∃ m F, en = .returned (ptr m) ∧ Hm w' w.heap.size m x (lim e 512) (lim t 60) [] true F := by
  refine (New_hm x e t w).mono ?_
  rintro en w' ⟨hb, m, p, a, n, c, rfl, h⟩
  exact ⟨hb, m, _, rfl, hx, hb.size, .inl ⟨rfl, p, a, n, c, [], h, List.Perm.refl _, rfl⟩⟩
theorem PackedH (B m x E T : Nat) (es : List En) (pk : Bool) (F : List Nat) (w : World) (h : Hm w B m x E T es pk F) : Calls Tryz.prog 27 #[ptr m] w fun e w' => e = .returned (.bool pk) ∧ w' = w := by
  obtain ⟨h1, h2, h3⟩ := h
  rcases h3 with ⟨rfl, p, a, n, c, fs, h4, h5, rfl⟩ | ⟨rfl, d, D, h4, h5, rfl⟩
  · exact Packed_yes m x E T _ w h4.blk
  · exact Packed_no m x E T d _ w h4.blk
theorem LenH (B m x E T : Nat) (es : List En) (pk : Bool) (F : List Nat) (w : World) (h : Hm w B m x E T es pk F) : Calls Tryz.prog 18 #[ptr m] w fun e w' => e = .returned (.int .i64 (es.length : Nat)) ∧ Below w.heap.size w w' := by
  obtain ⟨h1, h2, h3⟩ := h
  rcases h3 with ⟨rfl, p, a, n, c, fs, h4, h5, rfl⟩ | ⟨rfl, d, D, h4, h5, rfl⟩
  · rw [← h5.length_eq]; exact Len_small B m x E T p a n c fs w h4
  · rw [← h5.length_eq]; exact Len_large B m x E T d D w h4
/-- The block of a copy, as it is made first. -/
abbrev cblk (x E T : Nat) : Array Value := #[.int .u64 (x : Nat), .int .i64 (E : Nat), .int .i64 (T : Nat), .pointer none, .pointer none]
theorem Hb.new (w : World) (x E T : Nat) : Hb (w.alloc (.cells (cblk x E T) 84)) w.heap.size x E T (.pointer none) (.pointer none) := ⟨heap_alloc_new w _⟩
end Go.Proofs.YtikimcbalkhooaaGreatDoor
