/- Texts that the others stand on. -/
import Derived.Test.YtikimcbalkhooaaGreatDoorG1
import Derived.Test.YtikimcbalkhooaaGreatDoorG5
import Derived.Deep.RegionHeld3
import Derived.BigRegion
namespace Go.Proofs.YtikimcbalkhooaaGreatDoor.Zs
open Go.RowKit Go.PlainAid
open Dk (En Stay hasK putE delE keysOf Dct Dg dtag)
/-- No text of these is longer. -/
def Szs (T : Nat) (l : List ByteArray) : Prop := ∀ s ∈ l, s.size ≤ T
/-- Is a member there? -/
def hasM (l : List ByteArray) (k : ByteArray) : Bool := l.any fun s => decide (s = k)
/-- A member more, a member less. -/
def addM (l : List ByteArray) (k : ByteArray) : List ByteArray := if hasM l k = true then l else l ++ [k]
theorem Szs.fit {T : Nat} {l : List ByteArray} (h : Szs T l) (hT : T ≤ 4096) : Fit l := fun s hs => Nat.le_trans (h s hs) hT
theorem Szs.mono {T U : Nat} {l : List ByteArray} (h : Szs T l) (hT : T ≤ U) : Szs U l := fun s hs => Nat.le_trans (h s hs) hT
theorem Szs.perm {T : Nat} {l r : List ByteArray} (h : Szs T l) (hp : l.Perm r) : Szs T r := fun s hs => h s (hp.mem_iff.2 hs)
theorem Szs.add {T : Nat} {l : List ByteArray} (h : Szs T l) {k : ByteArray} (hk : k.size ≤ T) : Szs T (addM l k) := by
  intro s hs
  unfold addM at hs
  split at hs
  · exact h s hs
  · rcases List.mem_append.1 hs with h1 | h1
    · exact h s h1
    · rw [List.mem_singleton.1 h1]; exact hk
theorem enc_len62 {l : List UInt8} (h : l.length ≤ 60) : (enc l).length ≤ 62 := by
  have hb : (body l).length ≤ 61 := by
    rcases body_ways l with ⟨n, h0, h1, e⟩ | ⟨n, h0, h1, e⟩ | ⟨h0, h1, e⟩ | ⟨h0, h1, e⟩ <;> rw [e]
    · simp
    · rw [List.length_cons, be_len]; omega
    · simp; omega
    · omega
  have h2 := back_len (body l).length
  unfold enc
  rw [List.length_append]
  split at h2 <;> omega
theorem pack_len62 (ls : List ByteArray) (h : ∀ s ∈ ls, s.size ≤ 60) : (pack ls).length ≤ 62 * ls.length := by
  induction ls with
  | nil => simp [pack]
  | cons s l ih =>
    have h1 := enc_len62 (l := lst s) (by rw [len_lst]; exact h s (by simp))
    have h2 := ih (fun t ht => h t (List.mem_cons_of_mem _ ht))
    rw [pack, List.length_append, List.length_cons]
    omega
/-- A set's own block. -/
structure Hb (w : World) (m x E T : Nat) (s l : Value) : Prop where
  blk : w.heap[m]? = some (.cells #[.int .u64 (x : Nat), .int .i64 (E : Nat), .int .i64 (T : Nat), s, l] 87 (0, 0))
theorem Hb.lt {w : World} {m x E T : Nat} {s l : Value} (h : Hb w m x E T s l) : m < w.heap.size := (Array.getElem?_eq_some_iff.1 h.blk).1
theorem Hb.kept {w wn : World} {m x E T : Nat} {s l : Value} (h : Hb w m x E T s l) (hb : wn.heap[m]? = w.heap[m]?) : Hb wn m x E T s l := ⟨by rw [hb]; exact h.blk⟩
theorem Hb.keep {w wn : World} {m x E T : Nat} {s l : Value} (h : Hb w m x E T s l) (hb : Below w.heap.size w wn) : Hb wn m x E T s l := h.kept (hb.block m h.lt)
theorem Hb.cs {w : World} {m x E T : Nat} {s l : Value} (h : Hb w m x E T s l) : w.cell? ⟨m, 3, none⟩ = some s := by simp [World.cell?, h.blk]
theorem Hb.cl {w : World} {m x E T : Nat} {s l : Value} (h : Hb w m x E T s l) : w.cell? ⟨m, 4, none⟩ = some l := by simp [World.cell?, h.blk]
/-- The blocks of a pack. -/
def pfp (p : Nat) (a : Option Addr) : List Nat := p :: (a.map (·.block)).toList
/-- A packed set. -/
structure Small (w : World) (B m x E T p : Nat) (a : Option Addr) (n c : Nat) (l : List ByteArray) : Prop where
  blk : Hb w m x E T (ptr p) (.pointer none)
  pk : Pk w B p a n c l
  low : B ≤ m
  le : l.length ≤ E
  sz : Szs T l
  nod : l.Nodup
  hE : E ≤ 512
  hT : T ≤ 60
/-- One with a dict. -/
structure Large (w : World) (B m x E T d : Nat) (D : Dg) : Prop where
  blk : Hb w m x E T (.pointer none) (ptr d)
  dc : Dct w B d x D
  low : B ≤ m
  sz : Szs 4096 (keysOf D.es)
  hE : E ≤ 512
  hT : T ≤ 60
theorem Small.keep {w wn : World} {B m x E T p : Nat} {a : Option Addr} {n c : Nat} {l : List ByteArray} (h : Small w B m x E T p a n c l) (hb : Below w.heap.size w wn) : Small wn B m x E T p a n c l := ⟨h.blk.keep hb, h.pk.keep hb, h.low, h.le, h.sz, h.nod, h.hE, h.hT⟩
theorem Large.keep {w wn : World} {B m x E T d : Nat} {D : Dg} (h : Large w B m x E T d D) (hb : Below w.heap.size w wn) : Large wn B m x E T d D := ⟨h.blk.keep hb, h.dc.keep hb, h.low, h.sz, h.hE, h.hT⟩
theorem Small.fit {w : World} {B m x E T p : Nat} {a : Option Addr} {n c : Nat} {l : List ByteArray} (h : Small w B m x E T p a n c l) : Fit l := h.sz.fit (by have := h.hT; omega)
theorem Small.n {w : World} {B m x E T p : Nat} {a : Option Addr} {n c : Nat} {l : List ByteArray} (h : Small w B m x E T p a n c l) : n ≤ 62 * l.length := by
  have h1 := pack_len62 l (h.sz.mono h.hT)
  have := h.pk.len
  omega
theorem Small.max {w : World} {B m x E T p : Nat} {a : Option Addr} {n c : Nat} {l : List ByteArray} (h : Small w B m x E T p a n c l) : n ≤ 31744 := by
  have := h.n; have := h.le; have := h.hE; omega
theorem Packed_yes (m x E T : Nat) (s : Value) (w : World) (h : Hb w m x E T s (.pointer none)) : Calls Tryz.prog 28 #[ptr m] w fun e w' => e = .returned (.bool true) ∧ w' = w := by
  have hc := h.cl
  clear h
  go_enter Tryz.func28, Tryz.ntmps28
  go_wp2
  go_ret
  exact ⟨rfl, rfl⟩
theorem Packed_no (m x E T d : Nat) (s : Value) (w : World) (h : Hb w m x E T s (ptr d)) : Calls Tryz.prog 28 #[ptr m] w fun e w' => e = .returned (.bool false) ∧ w' = w := by
  have hc := h.cl
  clear h
  go_enter Tryz.func28, Tryz.ntmps28
  go_wp2
  go_ret
  exact ⟨rfl, rfl⟩
theorem Len_small (B m x E T p : Nat) (a : Option Addr) (n c : Nat) (l : List ByteArray) (w : World) (h : Small w B m x E T p a n c l) : Calls Tryz.prog 19 #[ptr m] w fun e w' => e = .returned (.int .i64 (l.length : Nat)) ∧ w' = w := by
  have hc := h.blk.cs
  have HP := Packed_yes m x E T _ w h.blk
  have HL := Len_any B p a n c l w h.pk
  generalize l.length = k at HL ⊢
  clear h
  go_enter Tryz.func19, Tryz.ntmps19
  go_wp2_with fail
  refine HP.mono ?_
  rintro e w1 ⟨rfl, rfl⟩
  go_wp2_with fail
  refine HL.mono ?_
  rintro e w1 ⟨rfl, rfl⟩
  go_wp2
  go_ret
  exact ⟨rfl, rfl⟩
theorem Len_large (B m x E T d : Nat) (D : Dg) (w : World) (h : Large w B m x E T d D) : Calls Tryz.prog 19 #[ptr m] w fun e w' => e = .returned (.int .i64 ((keysOf D.es).length : Nat)) ∧ w' = w := by
  have hc := h.blk.cl
  have HP := Packed_no m x E T d _ w h.blk
  have HL := Dk.Len_dict B d x D w h.dc
  rw [show (keysOf D.es).length = D.es.length by rw [keysOf, List.length_map]]
  generalize D.es.length = k at HL ⊢
  clear h
  go_enter Tryz.func19, Tryz.ntmps19
  go_wp2_with fail
  refine HP.mono ?_
  rintro e w1 ⟨rfl, rfl⟩
  go_wp2_with fail
  refine HL.mono ?_
  rintro e w1 ⟨rfl, rfl⟩
  go_wp2
  go_ret
  exact ⟨rfl, rfl⟩
end Go.Proofs.YtikimcbalkhooaaGreatDoor.Zs
namespace Go.Proofs.YtikimcbalkhooaaGreatDoor.Zs
open Go.RowKit Go.PlainAid
open Dk (En Stay hasK putE delE keysOf Dct Dg dtag Turn)
/-- A limit, as it counts. -/
def lim (z : Int) (hi : Nat) : Nat := (min (max z 0) hi).toNat
theorem lim_le (z : Int) (hi : Nat) : lim z hi ≤ hi := by unfold lim; omega
set_option maxRecDepth 100000 in
set_option maxHeartbeats 4000000 in
theorem New_hm (x : Nat) (e t : Int) (w : World) :
    Calls Tryz.prog 44 #[.int .u64 x, .agg #[.int .i64 e, .int .i64 t]] w fun en w' => Below w.heap.size w w' ∧ ∃ m p a n c, en = .returned (ptr m) ∧ Small w' w.heap.size m x (lim e 512) (lim t 60) p a n c [] := by
  obtain ⟨E, hE⟩ : ∃ E, lim e 512 = E := ⟨_, rfl⟩
  obtain ⟨T, hT⟩ : ∃ T, lim t 60 = T := ⟨_, rfl⟩
  have HE : Hid (lim e 512 = E) := hE
  have HT : Hid (lim t 60 = T) := hT
  rw [hE, hT]
  clear hE hT
  obtain ⟨wa, hwa⟩ : ∃ wa, wa = w.alloc (.cells #[.int .i64 (E : Nat), .int .i64 (T : Nat)] 39) := ⟨_, rfl⟩
  go_enter Tryz.func44, Tryz.ntmps44
  go_upto_region 1 with fail
  go_cut [4] from 5 to 9 (fun v wx => v = .pointer none ∧ wx = w.alloc (.cells #[.int .i64 (E : Nat), .int .i64 t] 39))
  case first =>
    go_wp2
    all_goals
      go_meet
      have h1 := HE.out
      unfold lim at h1
      refine ⟨rfl, ?_⟩
      first
        | rw [show ((E : Nat) : Int) = 0 by omega]
        | rw [show ((E : Nat) : Int) = 512 by omega]
        | rw [show ((E : Nat) : Int) = e by omega]
  case rest =>
  obtain ⟨rfl, rfl⟩ := hcut
  go_upto_region 2 with fail
  go_cut [4] from 10 to 14 (fun v wx => v = .pointer none ∧ wa = wx)
  case first =>
    go_wp2
    all_goals
      go_meet
      have h1 := HT.out
      unfold lim at h1
      refine ⟨rfl, ?_⟩
      rw [hwa]
      first
        | rw [show ((T : Nat) : Int) = 0 by omega]
        | rw [show ((T : Nat) : Int) = 60 by omega]
        | rw [show ((T : Nat) : Int) = t by omega]
  case rest =>
  obtain ⟨rfl, rfl⟩ := hcut
  have hba : Below w.heap.size w wa := by rw [hwa]; exact alloc_below w _
  have hbd : Below w.heap.size w wa.drew := hba.trans ((below_drewN wa 1).mono hba.size)
  have hsz : w.heap.size < wa.drew.heap.size := by
    show w.heap.size < wa.heap.size
    rw [hwa]
    exact (Array.getElem?_eq_some_iff.1 (heap_alloc_new w _)).1
  have hc1 : wa.drew.cell? ⟨w.heap.size, 0, none⟩ = some (.int .i64 (E : Nat)) := by subst hwa; simp
  have hc2 : wa.drew.cell? ⟨w.heap.size, 1, none⟩ = some (.int .i64 (T : Nat)) := by subst hwa; simp
  have HN := New_any wa.drew
  have HBd : Hid (Below w.heap.size w wa.drew) := hbd
  have HCk : Hid (∀ w2, Below wa.drew.heap.size wa.drew w2 → w2.cell? ⟨w.heap.size, 0, none⟩ = some (.int .i64 (E : Nat)) ∧ w2.cell? ⟨w.heap.size, 1, none⟩ = some (.int .i64 (T : Nat))) := fun w2 hb => ⟨by rw [hb.cell (p := ⟨w.heap.size, 0, none⟩) hsz]; exact hc1, by rw [hb.cell (p := ⟨w.heap.size, 1, none⟩) hsz]; exact hc2⟩
  clear hwa hba hbd hsz
  go_wp2_with fail
  go_region_with (go_at_call 76; refine HN.mono ?_; rintro e1 w2 ⟨hb, p, a, n, c, rfl, hP⟩; obtain ⟨hk1, hk2⟩ := HCk.out w2 hb; have HB2 := step_below HBd hb; have HP2 : Hid (Pk w2 w.heap.size p a n c []) := hP.low' HBd.out.size; clear hb hP)
  all_goals
    have HR : Hid (Small (w2.alloc (.cells #[.int .u64 (x : Nat), .int .i64 (E : Nat), .int .i64 (T : Nat), ptr p, .pointer none] 87)) w.heap.size w2.heap.size x E T p a n c []) :=
      Small.mk (Hb.mk (heap_alloc_new w2 _)) (HP2.out.keep (alloc_below w2 _)) HB2.out.size (Nat.zero_le _) (fun _ h => absurd h List.not_mem_nil) List.nodup_nil (HE.out ▸ lim_le e 512) (HT.out ▸ lim_le t 60)
    go_wp2
    go_ret
    exact ⟨HB2.out.trans ((alloc_below w2 _).mono HB2.out.size), _, p, a, n, c, rfl, HR.out⟩
theorem Leaf.lower {w : World} {B C x : Nat} {f : Dk.Lf} (h : Dk.Leaf w B x f) (hC : C ≤ B) : Dk.Leaf w C x f :=
  ⟨h.blk, Dk.OwnR.low h.row hC, fun t ht => (h.tab t ht).lower hC, Nat.le_trans hC h.low, h.nod, h.key, h.pos⟩
theorem Dct.lower {w : World} {B C d x : Nat} {D : Dg} (h : Dct w B d x D) (hC : C ≤ B) : Dct w C d x D :=
  ⟨h.blk, Dk.OwnR.low h.row hC, fun f hf => Leaf.lower (h.leaf f hf) hC, h.shp, h.dir, h.own, h.one, h.ful, h.nod, Nat.le_trans hC h.low, h.seed, h.le⟩
theorem Small.np {w : World} {B m x E T p : Nat} {a : Option Addr} {n c : Nat} {l : List ByteArray} (h : Small w B m x E T p a n c l) : m ≠ p := by
  rintro rfl
  have h1 := h.blk.blk
  rw [h.pk.blk] at h1
  simp at h1
theorem Small.nr {w : World} {B m x E T p : Nat} {a : Option Addr} {n c : Nat} {l : List ByteArray} (h : Small w B m x E T p a n c l) : some m ≠ a.map (·.block) := by
  intro hk
  obtain ⟨-, -, cur, h3⟩ := Dk.OwnR.lt (h.pk.own : Dk.OwnR w B 5 1 a n c _) hk.symm
  have h1 := h.blk.blk
  rw [h3] at h1
  simp at h1
/-- What a call leaves that turns a packed set. -/
def SmallTo (w w' : World) (B m x E T p : Nat) (a : Option Addr) (l : List ByteArray) : Prop := Moves w w' p a ∧ ∃ a' n' c', Small w' B m x E T p a' n' c' l ∧ Went w a a'
theorem Small.to {w w' : World} {B m x E T p : Nat} {a : Option Addr} {n c : Nat} {l r : List ByteArray} (h : Small w B m x E T p a n c l) {v : Value} {e : Ending} (ht : Turns w B p a r v e w') (hl : r.length ≤ E) (hs : Szs T r) (hn : r.Nodup) : SmallTo w w' B m x E T p a r := by
  obtain ⟨-, hm, a', n', c', hp, hw⟩ := ht
  exact ⟨hm, a', n', c', ⟨h.blk.kept (hm.block m h.blk.lt h.np h.nr), hp, h.low, hl, hs, hn, h.hE, h.hT⟩, hw⟩
/-- What an Add leaves that lays the members into a dict. -/
def UnTo (w w' : World) (B m x E T d : Nat) (D : Dg) (l : List ByteArray) : Prop := Large w' B m x E T d D ∧ (keysOf D.es).Perm l ∧ Stay w w' [m] ∧ (∀ k ∈ d :: D.pb :: Dk.fpL D.L, w.heap.size ≤ k)
/-- The block of a copy, as it is made first. -/
abbrev cblk (x E T : Nat) : Array Value := #[.int .u64 (x : Nat), .int .i64 (E : Nat), .int .i64 (T : Nat), .pointer none, .pointer none]
theorem Hb.new (w : World) (x E T : Nat) : Hb (w.alloc (.cells (cblk x E T) 87)) w.heap.size x E T (.pointer none) (.pointer none) := ⟨heap_alloc_new w _⟩
/-- The types of a set's blocks. -/
def htag (t : TypeId) : Bool := dtag t || t == 87 || t == 120 || t == 5
/-- A set at m, with the seed x and the limits E and T: it has l, is packed or not, lies in the blocks F. -/
def Ss (w : World) (B m x E T : Nat) (l : List ByteArray) (pk : Bool) (F : List Nat) : Prop :=
  x < 18446744073709551616 ∧ B ≤ w.heap.size ∧ ((pk = true ∧ ∃ p a n c r, Small w B m x E T p a n c r ∧ r.Perm l ∧ F = m :: pfp p a) ∨ (pk = false ∧ ∃ d D, Large w B m x E T d D ∧ (keysOf D.es).Perm l ∧ F = m :: d :: D.pb :: Dk.fpL D.L))
theorem Ss.keep {w wn : World} {B m x E T : Nat} {l : List ByteArray} {pk : Bool} {F : List Nat} (h : Ss w B m x E T l pk F) (hb : Below w.heap.size w wn) : Ss wn B m x E T l pk F := by
  obtain ⟨h1, h2, h3⟩ := h
  refine ⟨h1, Nat.le_trans h2 hb.size, ?_⟩
  rcases h3 with ⟨h3, p, a, n, c, fs, h4, h5⟩ | ⟨h3, d, D, h4, h5⟩
  · exact .inl ⟨h3, p, a, n, c, fs, h4.keep hb, h5⟩
  · exact .inr ⟨h3, d, D, h4.keep hb, h5⟩
theorem Ss.perm {w : World} {B m x E T : Nat} {l r : List ByteArray} {pk : Bool} {F : List Nat} (h : Ss w B m x E T l pk F) (hp : l.Perm r) : Ss w B m x E T r pk F := by
  obtain ⟨h1, h2, h3⟩ := h
  refine ⟨h1, h2, ?_⟩
  rcases h3 with ⟨h3, p, a, n, c, gs, h4, h5, h6⟩ | ⟨h3, d, D, h4, h5, h6⟩
  · exact .inl ⟨h3, p, a, n, c, gs, h4, h5.trans hp, h6⟩
  · exact .inr ⟨h3, d, D, h4, h5.trans hp, h6⟩
theorem Ss.nod {w : World} {B m x E T : Nat} {l : List ByteArray} {pk : Bool} {F : List Nat} (h : Ss w B m x E T l pk F) : l.Nodup := by
  obtain ⟨h1, h2, h3⟩ := h
  rcases h3 with ⟨h3, p, a, n, c, fs, h4, h5, h6⟩ | ⟨h3, d, D, h4, h5, h6⟩
  · exact h5.nodup_iff.1 h4.nod
  · exact h5.nodup_iff.1 h4.dc.nodk
theorem Ss.sz {w : World} {B m x E T : Nat} {l : List ByteArray} {pk : Bool} {F : List Nat} (h : Ss w B m x E T l pk F) : Szs 4096 l := by
  obtain ⟨h1, h2, h3⟩ := h
  rcases h3 with ⟨h3, p, a, n, c, fs, h4, h5, h6⟩ | ⟨h3, d, D, h4, h5, h6⟩
  · exact (h4.sz.mono (by have := h4.hT; omega)).perm h5
  · exact h4.sz.perm h5
theorem Ss.lim {w : World} {B m x E T : Nat} {l : List ByteArray} {pk : Bool} {F : List Nat} (h : Ss w B m x E T l pk F) : E ≤ 512 ∧ T ≤ 60 := by
  obtain ⟨h1, h2, h3⟩ := h
  rcases h3 with ⟨h3, p, a, n, c, fs, h4, h5, h6⟩ | ⟨h3, d, D, h4, h5, h6⟩
  · exact ⟨h4.hE, h4.hT⟩
  · exact ⟨h4.hE, h4.hT⟩
theorem Ss.le {w : World} {B m x E T : Nat} {l : List ByteArray} {F : List Nat} (h : Ss w B m x E T l true F) : l.length ≤ E ∧ Szs T l := by
  obtain ⟨h1, h2, h3⟩ := h
  rcases h3 with ⟨h3, p, a, n, c, fs, h4, h5, h6⟩ | ⟨h3, d, D, h4, h5, h6⟩
  · exact ⟨by rw [← h5.length_eq]; exact h4.le, h4.sz.perm h5⟩
  · cases h3
theorem Ss.lt {w : World} {B m x E T : Nat} {l : List ByteArray} {pk : Bool} {F : List Nat} (h : Ss w B m x E T l pk F) : B ≤ m ∧ m < w.heap.size := by
  obtain ⟨h1, h2, h3⟩ := h
  rcases h3 with ⟨h3, p, a, n, c, fs, h4, h5, h6⟩ | ⟨h3, d, D, h4, h5, h6⟩
  · exact ⟨h4.low, h4.blk.lt⟩
  · exact ⟨h4.low, h4.blk.lt⟩
/-- It may have no more than this. -/
theorem Ss.most {w : World} {B m x E T : Nat} {l : List ByteArray} {pk : Bool} {F : List Nat} (h : Ss w B m x E T l pk F) : l.length ≤ 1000000 := by
  obtain ⟨h1, h2, h3⟩ := h
  rcases h3 with ⟨h3, p, a, n, c, fs, h4, h5, h6⟩ | ⟨h3, d, D, h4, h5, h6⟩
  · have := h4.le; have := h4.hE; have := h5.length_eq; omega
  · have := h4.dc.le; have := h5.length_eq; rw [keysOf, List.length_map] at this; omega
theorem mem_pfp {p : Nat} {a : Option Addr} {k : Nat} (h : k ∈ pfp p a) : k = p ∨ a.map (·.block) = some k := by
  unfold pfp at h
  rcases List.mem_cons.1 h with h | h
  · exact .inl h
  · exact .inr (Option.mem_toList.1 h)
theorem pfp_mem {p : Nat} {a : Option Addr} {k : Nat} (h : k = p ∨ a.map (·.block) = some k) : k ∈ pfp p a := by
  unfold pfp
  rcases h with h | h
  · exact List.mem_cons.2 (.inl h)
  · exact List.mem_cons.2 (.inr (Option.mem_toList.2 h))
/-- Each of its blocks: where it may lie, of what type it is. -/
theorem Ss.tags {w : World} {B m x E T : Nat} {l : List ByteArray} {pk : Bool} {F : List Nat} (h : Ss w B m x E T l pk F) : ∀ k ∈ F, B ≤ k ∧ k < w.heap.size ∧ ∃ cs t, w.heap[k]? = some (.cells cs t (0, 0)) ∧ htag t = true := by
  obtain ⟨h1, h2, h3⟩ := h
  intro k hk
  rcases h3 with ⟨h3, p, a, n, c, fs, h4, h5, rfl⟩ | ⟨h3, d, D, h4, h5, rfl⟩
  · rcases List.mem_cons.1 hk with rfl | hk
    · exact ⟨h4.low, h4.blk.lt, _, _, h4.blk.blk, rfl⟩
    rcases mem_pfp hk with rfl | hk
    · exact ⟨h4.pk.low, h4.pk.lt, _, _, h4.pk.blk, rfl⟩
    · obtain ⟨k1, k2, cur, k3⟩ := Dk.OwnR.lt (h4.pk.own : Dk.OwnR w B 5 1 a n c _) hk
      exact ⟨k1, k2, _, _, k3, rfl⟩
  · rcases List.mem_cons.1 hk with rfl | hk
    · exact ⟨h4.low, h4.blk.lt, _, _, h4.blk.blk, rfl⟩
    · obtain ⟨cs, t, k1, k2⟩ := h4.dc.tags k hk
      exact ⟨(h4.dc.fplt k hk).1, (h4.dc.fplt k hk).2, cs, t, k1, by unfold htag; rw [k2]; rfl⟩
theorem Ss.stay {w w' : World} {B m x E T : Nat} {l : List ByteArray} {pk : Bool} {F M : List Nat} (h : Ss w B m x E T l pk F) (hs : Stay w w' M) (hd : ∀ k ∈ F, k ∉ M) : Ss w' B m x E T l pk F := by
  obtain ⟨h1, h2, h3⟩ := h
  refine ⟨h1, Nat.le_trans h2 hs.size, ?_⟩
  rcases h3 with ⟨h3, p, a, n, c, fs, h4, h5, rfl⟩ | ⟨h3, d, D, h4, h5, rfl⟩
  · refine .inl ⟨h3, p, a, n, c, fs, ⟨h4.blk.kept (hs.block m h4.blk.lt (hd m (by simp))), ⟨?_, h4.pk.low, ?_⟩, h4.low, h4.le, h4.sz, h4.nod, h4.hE, h4.hT⟩, h5, rfl⟩
    · rw [hs.block p h4.pk.lt (hd p (List.mem_cons_of_mem _ (pfp_mem (.inl rfl))))]; exact h4.pk.blk
    · exact Dk.OwnR.stay (h4.pk.own : Dk.OwnR w B 5 1 a n c _) hs (fun k hk => hd k (List.mem_cons_of_mem _ (pfp_mem (.inr hk))))
  · exact .inr ⟨h3, d, D, ⟨h4.blk.kept (hs.block m h4.blk.lt (hd m (by simp))), h4.dc.stay hs (fun k hk => hd k (List.mem_cons_of_mem _ hk)), h4.low, h4.sz, h4.hE, h4.hT⟩, h5, rfl⟩
/-- A lower bound of its blocks. -/
theorem Ss.lower {w : World} {B C m x E T : Nat} {l : List ByteArray} {pk : Bool} {F : List Nat} (h : Ss w B m x E T l pk F) (hC : C ≤ B) : Ss w C m x E T l pk F := by
  obtain ⟨h1, h2, h3⟩ := h
  refine ⟨h1, Nat.le_trans hC h2, ?_⟩
  rcases h3 with ⟨h3, p, a, n, c, fs, h4, h5, rfl⟩ | ⟨h3, d, D, h4, h5, rfl⟩
  · exact .inl ⟨h3, p, a, n, c, fs, ⟨h4.blk, h4.pk.low' hC, Nat.le_trans hC h4.low, h4.le, h4.sz, h4.nod, h4.hE, h4.hT⟩, h5, rfl⟩
  · exact .inr ⟨h3, d, D, ⟨h4.blk, Dct.lower h4.dc hC, Nat.le_trans hC h4.low, h4.sz, h4.hE, h4.hT⟩, h5, rfl⟩
/-- What a call leaves that turns a set. -/
def STo (w w' : World) (B m x E T : Nat) (l : List ByteArray) (pk : Bool) (F : List Nat) : Prop := ∃ F', Ss w' B m x E T l pk F' ∧ Stay w w' F ∧ (∀ k ∈ F', k ∈ F ∨ w.heap.size ≤ k)
theorem STo.below {w w' : World} {B m x E T : Nat} {l r : List ByteArray} {pk pk' : Bool} {F : List Nat} (h : STo w w' B m x E T l pk F) (h0 : Ss w B m x E T r pk' F) : Below B w w' := by
  obtain ⟨F', -, h2, -⟩ := h
  exact h2.below (fun k hk => (h0.tags k hk).1) h0.2.1
theorem STo.same {w w' : World} {B m x E T : Nat} {l : List ByteArray} {pk : Bool} {F : List Nat} (h : Ss w B m x E T l pk F) (hb : Below w.heap.size w w') : STo w w' B m x E T l pk F := ⟨F, h.keep hb, Stay.of_below hb F, fun _ hk => .inl hk⟩
theorem NewS (x : Nat) (e t : Int) (w : World) (hx : x < 18446744073709551616) :
    Calls Tryz.prog 44 #[.int .u64 x, .agg #[.int .i64 e, .int .i64 t]] w fun en w' => Below w.heap.size w w' ∧ ∃ m F, en = .returned (ptr m) ∧ Ss w' w.heap.size m x (lim e 512) (lim t 60) [] true F := by
  refine (New_hm x e t w).mono ?_
  rintro en w' ⟨hb, m, p, a, n, c, rfl, h⟩
  exact ⟨hb, m, _, rfl, hx, hb.size, .inl ⟨rfl, p, a, n, c, [], h, List.Perm.refl _, rfl⟩⟩
theorem PackedS (B m x E T : Nat) (l : List ByteArray) (pk : Bool) (F : List Nat) (w : World) (h : Ss w B m x E T l pk F) : Calls Tryz.prog 28 #[ptr m] w fun e w' => e = .returned (.bool pk) ∧ w' = w := by
  obtain ⟨h1, h2, h3⟩ := h
  rcases h3 with ⟨rfl, p, a, n, c, fs, h4, h5, rfl⟩ | ⟨rfl, d, D, h4, h5, rfl⟩
  · exact Packed_yes m x E T _ w h4.blk
  · exact Packed_no m x E T d _ w h4.blk
theorem LenS (B m x E T : Nat) (l : List ByteArray) (pk : Bool) (F : List Nat) (w : World) (h : Ss w B m x E T l pk F) : Calls Tryz.prog 19 #[ptr m] w fun e w' => e = .returned (.int .i64 (l.length : Nat)) ∧ w' = w := by
  obtain ⟨h1, h2, h3⟩ := h
  rcases h3 with ⟨rfl, p, a, n, c, fs, h4, h5, rfl⟩ | ⟨rfl, d, D, h4, h5, rfl⟩
  · rw [← h5.length_eq]; exact Len_small B m x E T p a n c fs w h4
  · rw [← h5.length_eq]; exact Len_large B m x E T d D w h4
end Go.Proofs.YtikimcbalkhooaaGreatDoor.Zs
