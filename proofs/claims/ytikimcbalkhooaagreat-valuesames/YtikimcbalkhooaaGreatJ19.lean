/- Texts that the others stand on. -/
import Derived.Test.YtikimcbalkhooaaGreatJ4
import Derived.Test.YtikimcbalkhooaaGreatJ18
import Derived.Deep.RegionHeld3
import Derived.BigRegion
namespace Go.Proofs.YtikimcbalkhooaaGreat.Zs
open Go.RowKit Go.PlainAid
open Go.Proofs.YtikimcbalkhooaaGreat.Zs.Dk (En hasK putE keysOf Dct Dg dtag)
open Go.Proofs.YtikimcbalkhooaaGreat.Dk (Stay)
def Szs (T : Nat) (l : List ByteArray) : Prop := ∀ s ∈ l, s.size ≤ T
def hasM (l : List ByteArray) (k : ByteArray) : Bool := l.any fun s => decide (s = k)
theorem hasM_yes {l : List ByteArray} {k : ByteArray} (h : k ∈ l) : hasM l k = true := List.any_eq_true.2 ⟨k, h, decide_eq_true rfl⟩
theorem hasM_no {l : List ByteArray} {k : ByteArray} (h : k ∉ l) : hasM l k = false := by
 cases e : hasM l k with
 | false => rfl
 | true =>
  obtain ⟨s, hs, h1⟩ := List.any_eq_true.1 e
  exact absurd (of_decide_eq_true h1 ▸ hs) h
theorem hasM_perm {l r : List ByteArray} (h : l.Perm r) (k : ByteArray) : hasM l k = hasM r k := by
 by_cases hk : k ∈ l
 ·rw [hasM_yes hk, hasM_yes (h.mem_iff.1 hk)]
 ·rw [hasM_no hk, hasM_no (fun h2 => hk (h.mem_iff.2 h2))]
def addM (l : List ByteArray) (k : ByteArray) : List ByteArray := if hasM l k = true then l else l ++ [k]
theorem addM_yes {l : List ByteArray} {k : ByteArray} (h : k ∈ l) : addM l k = l := by unfold addM; rw [if_pos (hasM_yes h)]
theorem addM_no {l : List ByteArray} {k : ByteArray} (h : k ∉ l) : addM l k = l ++ [k] := by unfold addM; rw [if_neg (by rw [hasM_no h]; decide)]
theorem Szs.fit {T : Nat} {l : List ByteArray} (h : Szs T l) (hT : T ≤ 4096) : Fit l := fun s hs => Nat.le_trans (h s hs) hT
theorem Szs.mono {T U : Nat} {l : List ByteArray} (h : Szs T l) (hT : T ≤ U) : Szs U l := fun s hs => Nat.le_trans (h s hs) hT
theorem Szs.perm {T : Nat} {l r : List ByteArray} (h : Szs T l) (hp : l.Perm r) : Szs T r := fun s hs => h s (hp.mem_iff.2 hs)
theorem Szs.add {T : Nat} {l : List ByteArray} (h : Szs T l) {k : ByteArray} (hk : k.size ≤ T) : Szs T (addM l k) := by
 intro s hs
 unfold addM at hs
 split at hs
 ·exact h s hs
 ·rcases List.mem_append.1 hs with h1 | h1
  ·exact h s h1
  ·rw [List.mem_singleton.1 h1]; exact hk
theorem addM_perm {l r : List ByteArray} (h : l.Perm r) (k : ByteArray) : (addM l k).Perm (addM r k) := by
 by_cases hk : k ∈ l
 ·rw [addM_yes hk, addM_yes (h.mem_iff.1 hk)]; exact h
 ·rw [addM_no hk, addM_no (fun h2 => hk (h.mem_iff.2 h2))]; exact h.append_right _
theorem nodup_add {l : List ByteArray} (h : l.Nodup) (k : ByteArray) : (addM l k).Nodup := by
 by_cases hk : k ∈ l
 ·rw [addM_yes hk]; exact h
 ·rw [addM_no hk, List.nodup_append]
  refine ⟨h, by simp, ?_⟩
  intro s hs t ht e
  rw [List.mem_singleton.1 ht] at e
  exact hk (e ▸ hs)
theorem keys_put (es : List En) (k : ByteArray) (v : Unit) : keysOf (putE es k v) = addM (keysOf es) k := by
 by_cases hk : k ∈ keysOf es
 ·rw [addM_yes hk]
  unfold putE
  rw [if_pos (Dk.hasK_iff.2 hk)]
  unfold keysOf
  rw [List.map_map]
  refine List.map_congr_left fun e _ => ?_
  show (if e.1 = k then (k, v) else e).1 = e.1
  split
  ·rename_i h; exact h.symm
  ·rfl
 ·rw [addM_no hk]
  unfold putE
  rw [if_neg (by rw [Dk.hasK_no hk]; decide)]
  unfold keysOf
  rw [List.map_append]; rfl
theorem hasK_mem (es : List En) (k : ByteArray) : hasK es k = hasM (keysOf es) k := by
 by_cases hk : k ∈ keysOf es
 ·rw [Dk.hasK_iff.2 hk, hasM_yes hk]
 ·rw [Dk.hasK_no hk, hasM_no hk]
theorem enc_len62 {l : List UInt8} (h : l.length ≤ 60) : (enc l).length ≤ 62 := by
 have hb : (body l).length ≤ 61 := by
  rcases body_ways l with ⟨n, h0, h1, e⟩ | ⟨n, h0, h1, e⟩ | ⟨h0, h1, e⟩ | ⟨h0, h1, e⟩ <;> rw [e]
  ·simp
  ·rw [List.length_cons, be_len]; omega
  ·simp; omega
  ·omega
 have h2 := back_len (body l).length
 unfold enc
 rw [List.length_append]
 split at h2 <;> omega
theorem pack_len62 (ls : List ByteArray) (h : ∀ s ∈ ls, s.size ≤ 60) : (pack ls).length ≤ 62 * ls.length := by
 induction ls with
 | nil => simp [pack]
 | cons s l ih =>
  have h1 := enc_len62 (l := lst s) (by rw [len_lst]; exact h s (by simp))
  have h2 := ih (fun t ht => h t (List.mem_cons_of_mem _ ht))
  rw [pack, List.length_append, List.length_cons]
  omega
theorem fnd1_no {l : List ByteArray} {k : ByteArray} (h : k ∉ l) : ∀ (f i : Nat), fnd l k 1 f i = -1
 | 0, _ => rfl
 | f + 1, i => by
  rw [fnd]
  split
  ·rename_i hi
   have e1 : txt l i = l[i] := by unfold txt; rw [List.getD_eq_getElem?_getD, List.getElem?_eq_getElem hi]; rfl
   rw [e1, if_neg (fun e => h (by rw [← e]; exact List.getElem_mem hi))]
   exact fnd1_no h f (i + 1)
  ·rfl
theorem fnd1_yes {l a c : List ByteArray} {k : ByteArray} (e : l = a ++ k :: c) (hk : k ∉ a) : ∀ (f i : Nat), i ≤ a.length → a.length < f + i → fnd l k 1 f i = ((a.length : Nat) : Int)
 | 0, i, h1, h2 => by omega
 | f + 1, i, h1, h2 => by
  have hl : l.length = a.length + (c.length + 1) := by rw [e, List.length_append, List.length_cons]
  have hi' : i < l.length := by omega
  have e1 : txt l i = l[i] := by unfold txt; rw [List.getD_eq_getElem?_getD, List.getElem?_eq_getElem hi']; rfl
  rw [fnd, if_pos hi', e1]
  rcases Nat.lt_or_ge i a.length with h3 | h3
  ·have e2 : l[i] = a[i] := by
    have : l[i]? = some a[i] := by rw [e, List.getElem?_append_left h3, List.getElem?_eq_getElem h3]
    rw [List.getElem?_eq_getElem hi'] at this
    exact Option.some.inj this
   rw [e2, if_neg (fun e => hk (by rw [← e]; exact List.getElem_mem h3))]
   exact fnd1_yes e hk f (i + 1) (by omega) (by omega)
  ·have hia : i = a.length := by omega
   subst hia
   have e2 : l[a.length] = k := by
    have : l[a.length]? = some k := by rw [e, List.getElem?_append_right (Nat.le_refl _), Nat.sub_self]; rfl
    rw [List.getElem?_eq_getElem hi'] at this
    exact Option.some.inj this
   rw [e2, if_pos rfl]
structure Hb (w : World) (m x E T : Nat) (s l : Value) : Prop where
 blk : w.heap[m]? = some (.cells #[.int .u64 (x : Nat), .int .i64 (E : Nat), .int .i64 (T : Nat), s, l] 89 (0, 0))
theorem Hb.lt {w : World} {m x E T : Nat} {s l : Value} (h : Hb w m x E T s l) : m < w.heap.size := (Array.getElem?_eq_some_iff.1 h.blk).1
theorem Hb.kept {w wn : World} {m x E T : Nat} {s l : Value} (h : Hb w m x E T s l) (hb : wn.heap[m]? = w.heap[m]?) : Hb wn m x E T s l := ⟨by rw [hb]; exact h.blk⟩
theorem Hb.keep {w wn : World} {m x E T : Nat} {s l : Value} (h : Hb w m x E T s l) (hb : Below w.heap.size w wn) : Hb wn m x E T s l := h.kept (hb.block m h.lt)
theorem Hb.cx {w : World} {m x E T : Nat} {s l : Value} (h : Hb w m x E T s l) : w.cell? ⟨m, 0, none⟩ = some (.int .u64 (x : Nat)) := by simp [World.cell?, h.blk]
theorem Hb.cE {w : World} {m x E T : Nat} {s l : Value} (h : Hb w m x E T s l) : w.cell? ⟨m, 1, none⟩ = some (.int .i64 (E : Nat)) := by simp [World.cell?, h.blk]
theorem Hb.cT {w : World} {m x E T : Nat} {s l : Value} (h : Hb w m x E T s l) : w.cell? ⟨m, 2, none⟩ = some (.int .i64 (T : Nat)) := by simp [World.cell?, h.blk]
theorem Hb.cs {w : World} {m x E T : Nat} {s l : Value} (h : Hb w m x E T s l) : w.cell? ⟨m, 3, none⟩ = some s := by simp [World.cell?, h.blk]
theorem Hb.cl {w : World} {m x E T : Nat} {s l : Value} (h : Hb w m x E T s l) : w.cell? ⟨m, 4, none⟩ = some l := by simp [World.cell?, h.blk]
theorem Hb.fz {w : World} {m x E T : Nat} {s l : Value} (h : Hb w m x E T s l) (o : Nat) : w.frozen? ⟨m, o, none⟩ = false := by simp [World.frozen?, h.blk]
theorem Hb.setS {w : World} {m x E T : Nat} {s l : Value} (h : Hb w m x E T s l) (v : Value) : Hb (w.setCell ⟨m, 3, none⟩ v) m x E T v l := ⟨by rw [Dk.heap_set h.blk]; rfl⟩
theorem Hb.setL {w : World} {m x E T : Nat} {s l : Value} (h : Hb w m x E T s l) (v : Value) : Hb (w.setCell ⟨m, 4, none⟩ v) m x E T s v := ⟨by rw [Dk.heap_set h.blk]; rfl⟩
def pfp (p : Nat) (a : Option Addr) : List Nat := p :: (a.map (·.block)).toList
structure Small (w : World) (B m x E T p : Nat) (a : Option Addr) (n c : Nat) (l : List ByteArray) : Prop where
 blk : Hb w m x E T (ptr p) (.pointer none)
 pk : Pk w B p a n c l
 low : B ≤ m
 le : l.length ≤ E
 sz : Szs T l
 nod : l.Nodup
 hE : E ≤ 512
 hT : T ≤ 60
structure Large (w : World) (B m x E T d : Nat) (D : Dg) : Prop where
 blk : Hb w m x E T (.pointer none) (ptr d)
 dc : Dct w B d x D
 low : B ≤ m
 sz : Szs 4096 (keysOf D.es)
 hE : E ≤ 512
 hT : T ≤ 60
theorem Small.keep {w wn : World} {B m x E T p : Nat} {a : Option Addr} {n c : Nat} {l : List ByteArray} (h : Small w B m x E T p a n c l) (hb : Below w.heap.size w wn) : Small wn B m x E T p a n c l := ⟨h.blk.keep hb, h.pk.keep hb, h.low, h.le, h.sz, h.nod, h.hE, h.hT⟩
theorem Large.keep {w wn : World} {B m x E T d : Nat} {D : Dg} (h : Large w B m x E T d D) (hb : Below w.heap.size w wn) : Large wn B m x E T d D := ⟨h.blk.keep hb, h.dc.keep hb, h.low, h.sz, h.hE, h.hT⟩
theorem Small.fit {w : World} {B m x E T p : Nat} {a : Option Addr} {n c : Nat} {l : List ByteArray} (h : Small w B m x E T p a n c l) : Fit l := h.sz.fit (by have := h.hT; omega)
theorem Small.n {w : World} {B m x E T p : Nat} {a : Option Addr} {n c : Nat} {l : List ByteArray} (h : Small w B m x E T p a n c l) : n ≤ 62 * l.length := by
 have h1 := pack_len62 l (h.sz.mono h.hT)
 have := h.pk.len
 omega
theorem Small.max {w : World} {B m x E T p : Nat} {a : Option Addr} {n c : Nat} {l : List ByteArray} (h : Small w B m x E T p a n c l) : n ≤ 31744 := by
 have := h.n; have := h.le; have := h.hE; omega
theorem Packed_yes (m x E T : Nat) (s : Value) (w : World) (h : Hb w m x E T s (.pointer none)) : Calls Tryz.prog 36 #[ptr m] w fun e w' => e = .returned (.bool true) ∧ w' = w := by
 have hc := h.cl
 clear h
 go_enter Tryz.func36, Tryz.ntmps36
 go_wp2
 go_ret
 exact ⟨rfl, rfl⟩
theorem Packed_no (m x E T d : Nat) (s : Value) (w : World) (h : Hb w m x E T s (ptr d)) : Calls Tryz.prog 36 #[ptr m] w fun e w' => e = .returned (.bool false) ∧ w' = w := by
 have hc := h.cl
 clear h
 go_enter Tryz.func36, Tryz.ntmps36
 go_wp2
 go_ret
 exact ⟨rfl, rfl⟩
theorem Len_small (B m x E T p : Nat) (a : Option Addr) (n c : Nat) (l : List ByteArray) (w : World) (h : Small w B m x E T p a n c l) : Calls Tryz.prog 70 #[ptr m] w fun e w' => e = .returned (.int .i64 (l.length : Nat)) ∧ w' = w := by
 have hc := h.blk.cs
 have HP := Packed_yes m x E T _ w h.blk
 have HL := Len_any B p a n c l w h.pk
 generalize l.length = k at HL ⊢
 clear h
 go_enter Tryz.func70, Tryz.ntmps70
 go_wp2_with fail
 refine HP.mono ?_
 rintro e w1 ⟨rfl, rfl⟩
 go_wp2_with fail
 refine HL.mono ?_
 rintro e w1 ⟨rfl, rfl⟩
 go_wp2
 go_ret
 exact ⟨rfl, rfl⟩
theorem Len_large (B m x E T d : Nat) (D : Dg) (w : World) (h : Large w B m x E T d D) : Calls Tryz.prog 70 #[ptr m] w fun e w' => e = .returned (.int .i64 ((keysOf D.es).length : Nat)) ∧ w' = w := by
 have hc := h.blk.cl
 have HP := Packed_no m x E T d _ w h.blk
 have HL := Dk.Len_dict B d x D w h.dc
 rw [show (keysOf D.es).length = D.es.length by rw [keysOf, List.length_map]]
 generalize D.es.length = k at HL ⊢
 clear h
 go_enter Tryz.func70, Tryz.ntmps70
 go_wp2_with fail
 refine HP.mono ?_
 rintro e w1 ⟨rfl, rfl⟩
 go_wp2_with fail
 refine HL.mono ?_
 rintro e w1 ⟨rfl, rfl⟩
 go_wp2
 go_ret
 exact ⟨rfl, rfl⟩
theorem find_no (B m x E T p : Nat) (a : Option Addr) (n c : Nat) (l : List ByteArray) (k : ByteArray) (w : World) (h : Small w B m x E T p a n c l) (hk : k ∉ l) :
  Calls Tryz.prog 99 #[ptr m, .string k] w fun e w' => e = .returned (.int .i64 (-1)) ∧ Below w.heap.size w w' := by
 have hc := h.blk.cs
 have HF := Find_any B p a n c l k 0 1 w h.pk h.fit (by have := h.max; omega) (by decide) (by decide) (by decide)
 rw [fnd1_no hk] at HF
 clear h
 go_enter Tryz.func99, Tryz.ntmps99
 go_wp2_with fail
 refine HF.mono ?_
 rintro e w1 ⟨hb, rfl⟩
 have HB : Hid (Below w.heap.size w w1) := hb
 clear hb
 go_wp2
 go_ret
 exact ⟨rfl, HB.out⟩
theorem find_yes (B m x E T p : Nat) (a : Option Addr) (n c : Nat) (l b r : List ByteArray) (k : ByteArray) (w : World) (h : Small w B m x E T p a n c l) (he : l = b ++ k :: r) :
  Calls Tryz.prog 99 #[ptr m, .string k] w fun e w' => e = .returned (.int .i64 (b.length : Nat)) ∧ Below w.heap.size w w' := by
 have hc := h.blk.cs
 have HF := Find_any B p a n c l k 0 1 w h.pk h.fit (by have := h.max; omega) (by decide) (by decide) (by decide)
 have hn := h.nod
 rw [he, List.nodup_append] at hn
 have e1 := fnd1_yes he (fun hk => hn.2.2 k hk k (by simp) rfl) l.length 0 (Nat.zero_le _) (by rw [he, List.length_append, List.length_cons]; omega)
 rw [e1] at HF
 generalize b.length = q at HF ⊢
 clear h e1 hn
 go_enter Tryz.func99, Tryz.ntmps99
 go_wp2_with fail
 refine HF.mono ?_
 rintro e w1 ⟨hb, rfl⟩
 have HB : Hid (Below w.heap.size w w1) := hb
 clear hb
 go_wp2
 go_ret
 exact ⟨rfl, HB.out⟩
theorem Has_small (B m x E T p : Nat) (a : Option Addr) (n c : Nat) (l : List ByteArray) (k : ByteArray) (w : World) (h : Small w B m x E T p a n c l) :
  Calls Tryz.prog 58 #[ptr m, .string k] w fun e w' => e = .returned (.bool (hasM l k)) ∧ Below w.heap.size w w' := by
 have HP := Packed_yes m x E T _ w h.blk
 obtain ⟨z, t, HZ, hz, HF⟩ : ∃ (z : Int) (t : Bool), Hid (hasM l k = t) ∧ ((∃ q : Nat, z = q ∧ t = true) ∨ (z = -1 ∧ t = false)) ∧ Calls Tryz.prog 99 #[ptr m, .string k] w fun e w' => e = .returned (.int .i64 z) ∧ Below w.heap.size w w' := by
  by_cases hk : k ∈ l
  ·obtain ⟨b, r, e⟩ := List.append_of_mem hk
   exact ⟨_, true, hasM_yes hk, .inl ⟨_, rfl, rfl⟩, find_yes B m x E T p a n c l b r k w h e⟩
  ·exact ⟨-1, false, hasM_no hk, .inr ⟨rfl, rfl⟩, find_no B m x E T p a n c l k w h hk⟩
 rw [HZ.out]
 clear h
 rcases hz with ⟨q, rfl, rfl⟩ | ⟨rfl, rfl⟩
 all_goals
  go_enter Tryz.func58, Tryz.ntmps58
  go_wp2_with fail
  refine HP.mono ?_
  rintro e w1 ⟨rfl, rfl⟩
  go_wp2_with fail
  refine HF.mono ?_
  rintro e w2 ⟨rfl, hb⟩
  have HB : Hid (Below w1.heap.size w1 w2) := hb
  clear hb
  go_wp2
  go_ret
  exact ⟨rfl, HB.out⟩
theorem Has_large (B m x E T d : Nat) (D : Dg) (k : ByteArray) (w : World) (h : Large w B m x E T d D) (hk : k.size ≤ maxLen) :
  Calls Tryz.prog 58 #[ptr m, .string k] w fun e w' => e = .returned (.bool (hasM (keysOf D.es) k)) ∧ Below w.heap.size w w' := by
 have hc := h.blk.cl
 have HP := Packed_no m x E T d _ w h.blk
 have HG := Dk.GetD B d x D k w h.dc hk
 rw [hasK_mem] at HG
 generalize hasM (keysOf D.es) k = t at HG ⊢
 clear h
 go_enter Tryz.func58, Tryz.ntmps58
 go_wp2_with fail
 refine HP.mono ?_
 rintro e w1 ⟨rfl, rfl⟩
 go_wp2_with fail
 refine HG.mono ?_
 rintro e w2 ⟨rfl, hb⟩
 have HB : Hid (Below w1.heap.size w1 (w2.alloc (.cells #[] 92))) := hb.trans ((alloc_below w2 _).mono hb.size)
 clear hb
 go_wp2
 go_ret
 exact ⟨rfl, HB.out⟩
theorem All_small (B m x E T p : Nat) (a : Option Addr) (n c : Nat) (l : List ByteArray) (w : World) (h : Small w B m x E T p a n c l) :
  Calls Tryz.prog 38 #[ptr m] w fun e w' => Below w.heap.size w w' ∧ ∃ a n c, e = .returned (.slice a n c) ∧ OwnS w' w.heap.size a n c l := by
 have hc := h.blk.cs
 have HP := Packed_yes m x E T _ w h.blk
 have HA := All_any B p a n c l w h.pk h.fit (by have := h.max; omega)
 clear h
 go_enter Tryz.func38, Tryz.ntmps38
 go_wp2_with fail
 refine HP.mono ?_
 rintro e w0 ⟨rfl, rfl⟩
 go_wp2_with fail
 refine HA.mono ?_
 rintro e w1 ⟨hb, sa, sn, sc, rfl, hO⟩
 have HR : Hid (Below w0.heap.size w0 w1 ∧ OwnS w1 w0.heap.size sa sn sc l) := ⟨hb, hO⟩
 clear hb hO
 go_wp2
 go_ret
 exact ⟨HR.out.1, sa, sn, sc, rfl, HR.out.2⟩
theorem All_large (B m x E T d : Nat) (D : Dg) (w : World) (h : Large w B m x E T d D) :
  Calls Tryz.prog 38 #[ptr m] w fun e w' => Below w.heap.size w w' ∧ ∃ a n c l, e = .returned (.slice a n c) ∧ OwnS w' w.heap.size a n c l ∧ l.Perm (keysOf D.es) := by
 have hc := h.blk.cl
 have HP := Packed_no m x E T d _ w h.blk
 have HK := Dk.Keys_dict B d x D w h.dc
 have HPm : Hid ((keysOf (Dk.esL (Dk.ordU D.L (2 ^ D.g)))).Perm (keysOf D.es)) := by
  show List.Perm _ _
  exact (h.dc.ord_perm.flatMap_right Dk.Lf.es).map Prod.fst
 generalize keysOf (Dk.esL (Dk.ordU D.L (2 ^ D.g))) = ks at HK HPm
 clear h
 go_enter Tryz.func38, Tryz.ntmps38
 go_wp2_with fail
 refine HP.mono ?_
 rintro e w1 ⟨rfl, rfl⟩
 go_wp2_with fail
 refine HK.mono ?_
 rintro e w2 ⟨hb, a, n, c, rfl, hO⟩
 have HR : Hid (Below w1.heap.size w1 w2 ∧ OwnS w2 w1.heap.size a n c ks) := ⟨hb, hO⟩
 clear hb hO
 go_wp2
 go_ret
 exact ⟨HR.out.1, a, n, c, ks, rfl, HR.out.2, HPm.out⟩
end Go.Proofs.YtikimcbalkhooaaGreat.Zs
namespace Go.Proofs.YtikimcbalkhooaaGreat.Zs
open Go.RowKit Go.PlainAid
open Go.Proofs.YtikimcbalkhooaaGreat.Zs.Dk (En hasK putE keysOf Dct Dg dtag Turn)
open Go.Proofs.YtikimcbalkhooaaGreat.Dk (Stay)
theorem getD_not {l : List ByteArray} {i : Nat} (hn : l.Nodup) (hi : i < l.length) : l.getD i ByteArray.empty ∉ l.take i := by
 rw [List.getD_eq_getElem?_getD, List.getElem?_eq_getElem hi]
 intro hm
 have h1 : l = l.take i ++ l[i] :: l.drop (i + 1) := by rw [← List.drop_eq_getElem_cons hi, List.take_append_drop]
 rw [h1, List.nodup_append] at hn
 exact hn.2.2 _ hm _ (List.mem_cons_self ..) rfl
theorem getD_in {l : List ByteArray} {i : Nat} (hi : i < l.length) : l.getD i ByteArray.empty ∈ l := by
 rw [List.getD_eq_getElem?_getD, List.getElem?_eq_getElem hi]
 exact List.getElem_mem hi
set_option maxRecDepth 100000 in
set_option maxHeartbeats 4000000 in
theorem dictOf_any (B x : Nat) (a : Option Addr) (n c : Nat) (l : List ByteArray) (w : World) (hx : x < 18446744073709551616) (hO : OwnS w B a n c l) (hs : Szs 4096 l) (hn : l.Nodup) (hl : n < 1000000) :
  Calls Tryz.prog 86 #[.int .u64 x, .slice a n c] w fun e w' => Below w.heap.size w w' ∧ ∃ d D, e = .returned (ptr d) ∧ Dct w' w.heap.size d x D ∧ (keysOf D.es).Perm l := by
 have HN := Dk.New_dict x w hx
 have HO : Hid (OwnS w B a n c l) := hO
 have HS : Hid (Szs 4096 l) := hs
 have HK : Hid (l.Nodup) := hn
 have HL : Hid (l.length = n) := hO.len
 clear hO hs hn
 go_enter Tryz.func86, Tryz.ntmps86
 go_wp2_with fail
 refine HN.mono ?_
 rintro e w1 ⟨hb, d, D0, rfl, h1, -, -, h4⟩
 have HD0 : Hid (Dct w1 w.heap.size d x D0) := h1
 have HE0 : Hid ((keysOf D0.es).Perm (l.take 0)) := by show List.Perm _ _; rw [h4, List.take_zero]; exact List.Perm.refl _
 have HB1 : Hid (Below w.heap.size w w1) := hb
 clear hb h1 h4 HN
 go_wp2
 go_loopg [7, 12] n (fun g pv iv wr => ∃ (i : Nat) (D : Dg), i + g = n ∧ iv = .int .i64 i ∧ Hid (Dct wr w.heap.size d x D) ∧ Hid ((keysOf D.es).Perm (l.take i)) ∧ Hid (Below w.heap.size w wr))
 case atStart => exact ⟨0, D0, by omega, rfl, HD0, HE0, HB1⟩
 case round =>
  obtain ⟨i, D, hi, rfl, HD, HE, HB⟩ := hrel
  by_cases h8 : (i : Int) < n
  ·have hil : i < l.length := by have := HL.out; omega
   obtain ⟨b, off, rfl, hc1⟩ := (HO.out.keep HB.out).rd.cell i (by omega)
   have HT : Hid (l.take (i + 1) = l.take i ++ [l.getD i ByteArray.empty]) := take_snocB l i hil
   have HFR : Hid (l.getD i ByteArray.empty ∉ l.take i) := getD_not HK.out hil
   have HSZ : Hid ((l.getD i ByteArray.empty).size ≤ 4096) := HS.out _ (getD_in hil)
   generalize l.getD i ByteArray.empty = k at hc1 HT HFR HSZ
   have HP := Dk.PutD_new w.heap.size d x D k () wr HD.out (by have := HSZ.out; unfold maxLen; omega) (fun hm => HFR.out (HE.out.mem_iff.1 hm)) (by have := HE.out.length_eq; rw [keysOf, List.length_map, List.length_take] at this; omega)
   go_wp2_with fail
   refine HP.mono ?_
   rintro e w2 ⟨rfl, D', hT, -, hp⟩
   have HD2 : Hid (Dct w2 w.heap.size d x D') := hT.dct
   have HE2 : Hid ((keysOf D'.es).Perm (l.take (i + 1))) := by
    show List.Perm _ _
    rw [HT.out]
    have h5 : (keysOf D'.es).Perm (keysOf (D.es ++ [(k, ())])) := hp.map Prod.fst
    rw [Dk.keysOf_append] at h5
    exact h5.trans (HE.out.append_right _)
   have HB2 : Hid (Below w.heap.size w w2) := HB.out.trans (hT.below HD.out)
   clear hT hp
   go_wp2
   go_roundg (gk - 1)
   case measure => omega
   case rel => exact ⟨i + 1, D', by omega, by go_num, HD2, HE2, HB2⟩
  ·have hnn : i = n := by omega
   subst hnn
   have HT : Hid (l.take i = l) := List.take_of_length_le (by have := HL.out; omega)
   go_wp2
   go_ret
   exact ⟨HB.out, d, rfl, D, HD.out, by rw [HT.out] at HE; exact HE.out⟩
def lim (z : Int) (hi : Nat) : Nat := (min (max z 0) hi).toNat
theorem lim_le (z : Int) (hi : Nat) : lim z hi ≤ hi := by unfold lim; omega
set_option maxRecDepth 100000 in
set_option maxHeartbeats 4000000 in
theorem New_hm (x : Nat) (e t : Int) (w : World) :
  Calls Tryz.prog 68 #[.int .u64 x, .agg #[.int .i64 e, .int .i64 t]] w fun en w' => Below w.heap.size w w' ∧ ∃ m p a n c, en = .returned (ptr m) ∧ Small w' w.heap.size m x (lim e 512) (lim t 60) p a n c [] := by
 obtain ⟨E, hE⟩ : ∃ E, lim e 512 = E := ⟨_, rfl⟩
 obtain ⟨T, hT⟩ : ∃ T, lim t 60 = T := ⟨_, rfl⟩
 have HE : Hid (lim e 512 = E) := hE
 have HT : Hid (lim t 60 = T) := hT
 rw [hE, hT]
 clear hE hT
 obtain ⟨wa, hwa⟩ : ∃ wa, wa = w.alloc (.cells #[.int .i64 (E : Nat), .int .i64 (T : Nat)] 28) := ⟨_, rfl⟩
 go_enter Tryz.func68, Tryz.ntmps68
 go_upto_region 1 with fail
 go_cut [4] from 5 to 9 (fun v wx => v = .pointer none ∧ wx = w.alloc (.cells #[.int .i64 (E : Nat), .int .i64 t] 28))
 case first =>
  go_wp2
  all_goals
   go_meet
   have h1 := HE.out
   unfold lim at h1
   refine ⟨rfl, ?_⟩
   first
    | rw [show ((E : Nat) : Int) = 0 by omega]
    | rw [show ((E : Nat) : Int) = 512 by omega]
    | rw [show ((E : Nat) : Int) = e by omega]
 case rest =>
 obtain ⟨rfl, rfl⟩ := hcut
 go_upto_region 2 with fail
 go_cut [4] from 10 to 14 (fun v wx => v = .pointer none ∧ wa = wx)
 case first =>
  go_wp2
  all_goals
   go_meet
   have h1 := HT.out
   unfold lim at h1
   refine ⟨rfl, ?_⟩
   rw [hwa]
   first
    | rw [show ((T : Nat) : Int) = 0 by omega]
    | rw [show ((T : Nat) : Int) = 60 by omega]
    | rw [show ((T : Nat) : Int) = t by omega]
 case rest =>
 obtain ⟨rfl, rfl⟩ := hcut
 have hba : Below w.heap.size w wa := by rw [hwa]; exact alloc_below w _
 have hbd : Below w.heap.size w wa.drew := hba.trans ((below_drewN wa 1).mono hba.size)
 have hsz : w.heap.size < wa.drew.heap.size := by
  show w.heap.size < wa.heap.size
  rw [hwa]
  exact (Array.getElem?_eq_some_iff.1 (heap_alloc_new w _)).1
 have hc1 : wa.drew.cell? ⟨w.heap.size, 0, none⟩ = some (.int .i64 (E : Nat)) := by subst hwa; simp
 have hc2 : wa.drew.cell? ⟨w.heap.size, 1, none⟩ = some (.int .i64 (T : Nat)) := by subst hwa; simp
 have HN := New_any wa.drew
 have HBd : Hid (Below w.heap.size w wa.drew) := hbd
 have HCk : Hid (∀ w2, Below wa.drew.heap.size wa.drew w2 → w2.cell? ⟨w.heap.size, 0, none⟩ = some (.int .i64 (E : Nat)) ∧ w2.cell? ⟨w.heap.size, 1, none⟩ = some (.int .i64 (T : Nat))) := fun w2 hb => ⟨by rw [hb.cell (p := ⟨w.heap.size, 0, none⟩) hsz]; exact hc1, by rw [hb.cell (p := ⟨w.heap.size, 1, none⟩) hsz]; exact hc2⟩
 clear hwa hba hbd hsz
 go_wp2_with fail
 go_region_with (go_at_call 110; refine HN.mono ?_; rintro e1 w2 ⟨hb, p, a, n, c, rfl, hP⟩; obtain ⟨hk1, hk2⟩ := HCk.out w2 hb; have HB2 := step_below HBd hb; have HP2 : Hid (Pk w2 w.heap.size p a n c []) := hP.low' HBd.out.size; clear hb hP)
 all_goals
  have HR : Hid (Small (w2.alloc (.cells #[.int .u64 (x : Nat), .int .i64 (E : Nat), .int .i64 (T : Nat), ptr p, .pointer none] 89)) w.heap.size w2.heap.size x E T p a n c []) :=
   Small.mk (Hb.mk (heap_alloc_new w2 _)) (HP2.out.keep (alloc_below w2 _)) HB2.out.size (Nat.zero_le _) (fun _ h => absurd h List.not_mem_nil) List.nodup_nil (HE.out ▸ lim_le e 512) (HT.out ▸ lim_le t 60)
  go_wp2
  go_ret
  exact ⟨HB2.out.trans ((alloc_below w2 _).mono HB2.out.size), _, p, a, n, c, rfl, HR.out⟩
theorem Leaf.lower {w : World} {B C x : Nat} {f : Dk.Lf} (h : Dk.Leaf w B x f) (hC : C ≤ B) : Dk.Leaf w C x f :=
 ⟨h.blk, Dk.OwnR.low h.row hC, fun t ht => (h.tab t ht).lower hC, Nat.le_trans hC h.low, h.nod, h.key, h.pos⟩
theorem Dct.lower {w : World} {B C d x : Nat} {D : Dg} (h : Dct w B d x D) (hC : C ≤ B) : Dct w C d x D :=
 ⟨h.blk, Dk.OwnR.low h.row hC, fun f hf => Leaf.lower (h.leaf f hf) hC, h.shp, h.dir, h.own, h.one, h.ful, h.nod, Nat.le_trans hC h.low, h.seed, h.le⟩
theorem Small.un {w w1 w2 : World} {B m x E T p d : Nat} {a : Option Addr} {n c : Nat} {l : List ByteArray} {D : Dg} (h : Small w B m x E T p a n c l) (hb : Below w.heap.size w w1) (hB : B ≤ w.heap.size) (hD : Dct w1 w.heap.size d x D) (hp : (keysOf D.es).Perm l) (e2 : w2 = (w1.setCell ⟨m, 4, none⟩ (ptr d)).setCell ⟨m, 3, none⟩ (.pointer none)) :
  Large w2 B m x E T d D ∧ Stay w w2 [m] := by
 have hb1 := h.blk.keep hb
 have hne : m ∉ d :: D.pb :: Dk.fpL D.L := fun hm => by have := (hD.fplt m hm).1; have := h.blk.lt; omega
 have hS : Stay w1 w2 [m] := by
  rw [e2]
  exact Stay.set.trans (M' := [m]) Stay.set (fun i hi => .inl hi)
 refine ⟨⟨by rw [e2]; exact (hb1.setL _).setS _, ?_, h.low, (h.sz.mono (by have := h.hT; omega)).perm hp.symm, h.hE, h.hT⟩, (Stay.of_below hb [m]).trans hS (fun i hi => .inl hi)⟩
 have h1 := hD.stay hS (fun k hk hm => hne (by simp only [List.mem_singleton] at hm; exact hm ▸ hk))
 exact Dct.lower h1 hB
set_option maxRecDepth 100000 in
set_option maxHeartbeats 4000000 in
theorem unpack_any (B m x E T p : Nat) (a : Option Addr) (n c : Nat) (l : List ByteArray) (w : World) (hx : x < 18446744073709551616) (h : Small w B m x E T p a n c l) (hB : B ≤ w.heap.size) :
  Calls Tryz.prog 60 #[ptr m] w fun e w' => e = .returned (.tuple #[]) ∧ ∃ d D, Large w' B m x E T d D ∧ (keysOf D.es).Perm l ∧ Stay w w' [m] ∧ (∀ k ∈ d :: D.pb :: Dk.fpL D.L, w.heap.size ≤ k) := by
 have hbd : Below w.heap.size w w.drew := below_drewN w 1
 have hcd := (h.blk.keep hbd).cx
 have HA := All_small B m x E T p a n c l w.drew (h.keep hbd)
 have HSm : Hid (Small w B m x E T p a n c l) := h
 have HBd : Hid (Below w.heap.size w w.drew) := hbd
 have hn5 : l.length ≤ 512 := by have := h.le; have := h.hE; omega
 clear h hbd
 go_enter Tryz.func60, Tryz.ntmps60
 go_wp2_with fail
 go_cut [2, 9] from 3 to 11 (fun v u wx => ∃ d D w1, v = ptr m ∧ u = ptr d ∧ wx = w1.setCell ⟨m, 4, none⟩ (ptr d) ∧ Hid (Below w.heap.size w w1) ∧ Hid (Dct w1 w.heap.size d x D) ∧ Hid ((keysOf D.es).Perm l))
 case first =>
  go_region_with (first
   | (go_at_call 38; refine HA.mono ?_; rintro e w2 ⟨hb, a2, n2, c2, rfl, hO2⟩; have HB2 := step_below HBd hb; have HO2 : Hid (OwnS w2 w.heap.size a2 n2 c2 l) := Dk.OwnR.low hO2 HBd.out.size; have hcx := (HSm.out.keep HB2.out).blk.cx; have hn2 : l.length = n2 := hO2.len; clear hb hO2)
   | (go_at_call 86; refine (dictOf_any w.heap.size x a2 n2 c2 l _ hx HO2.out (HSm.out.sz.mono (by have := HSm.out.hT; omega)) HSm.out.nod (by omega)).mono ?_; rintro e w3 ⟨hb, d, D, rfl, hD, hp⟩; have HB3 := step_below HB2 hb; have HD3 : Hid (Dct w3 w.heap.size d x D) := Dct.lower hD HB2.out.size; have HE3 : Hid ((keysOf D.es).Perm l) := hp; have hcl := (HSm.out.keep HB3.out).blk.cl; have hfz := (HSm.out.keep HB3.out).blk.fz 4; clear hb hD hp))
  all_goals
   go_wp2
   go_meet
   exact ⟨d, D, w3, rfl, rfl, rfl, HB3, HD3, HE3⟩
 case rest =>
 obtain ⟨d, D, w1, rfl, rfl, rfl, HB1, HD1, HE1⟩ := hcut
 have hcs : (w1.setCell ⟨m, 4, none⟩ (ptr d)).cell? ⟨m, 3, none⟩ = some (ptr p) := ((HSm.out.blk.keep HB1.out).setL _).cs
 have hfz := ((HSm.out.blk.keep HB1.out).setL (ptr d)).fz 3
 have HR : Hid (Large ((w1.setCell ⟨m, 4, none⟩ (ptr d)).setCell ⟨m, 3, none⟩ (.pointer none)) B m x E T d D ∧ Stay w ((w1.setCell ⟨m, 4, none⟩ (ptr d)).setCell ⟨m, 3, none⟩ (.pointer none)) [m]) := HSm.out.un HB1.out hB HD1.out HE1.out rfl
 have HF : Hid (∀ k ∈ d :: D.pb :: Dk.fpL D.L, w.heap.size ≤ k) := fun k hk => (HD1.out.fplt k hk).1
 go_wp2
 go_end0
 exact ⟨rfl, d, D, HR.out.1, HE1.out, HR.out.2, HF.out⟩
set_option maxHeartbeats 1000000 in
theorem sfits_yes (B m x E T p : Nat) (a : Option Addr) (n c : Nat) (l : List ByteArray) (k : ByteArray) (w : World) (h : Small w B m x E T p a n c l) (h1 : k.size ≤ T) (h2 : l.length < E) :
  Calls Tryz.prog 59 #[ptr m, .string k] w fun e w' => e = .returned (.bool true) ∧ Below w.heap.size w w' := by
 have hcE := h.blk.cE
 have hcT := h.blk.cT
 have HL := fun q => Len_small B m x E T p a n c l (w.drewN q) (h.keep (below_drewN w q))
 have hE := h.hE
 have hT := h.hT
 have z1 : decide (k.size ≤ T) = true := decide_eq_true h1
 generalize l.length = q at HL h2
 have z2 : decide (q < E) = true := decide_eq_true h2
 have HB : Hid (∀ q, Below w.heap.size w (w.drewN q)) := fun q => below_drewN w q
 clear h
 go_enter Tryz.func59, Tryz.ntmps59
 go_wp2_with fail
 go_quiet ((go_at_call 70; exact Calls.quiet_of_same (HL _)))
 go_wp2
 go_ret
 exact ⟨rfl, HB.out _⟩
set_option maxHeartbeats 1000000 in
theorem sfits_no (B m x E T p : Nat) (a : Option Addr) (n c : Nat) (l : List ByteArray) (k : ByteArray) (w : World) (h : Small w B m x E T p a n c l) (h1 : ¬ (k.size ≤ T ∧ l.length < E)) :
  Calls Tryz.prog 59 #[ptr m, .string k] w fun e w' => e = .returned (.bool false) ∧ Below w.heap.size w w' := by
 have hcE := h.blk.cE
 have hcT := h.blk.cT
 have HL := fun q => Len_small B m x E T p a n c l (w.drewN q) (h.keep (below_drewN w q))
 have hE := h.hE
 have hT := h.hT
 have HB : Hid (∀ q, Below w.heap.size w (w.drewN q)) := fun q => below_drewN w q
 clear h
 by_cases h2 : k.size ≤ T
 ·have z1 : decide (k.size ≤ T) = true := decide_eq_true h2
  have h3 : ¬ l.length < E := fun h3 => h1 ⟨h2, h3⟩
  generalize l.length = q at HL h3
  have z2 : decide (q < E) = false := decide_eq_false h3
  clear h1 h3
  go_enter Tryz.func59, Tryz.ntmps59
  go_wp2_with fail
  go_quiet ((go_at_call 70; exact Calls.quiet_of_same (HL _)))
  go_wp2
  go_ret
  exact ⟨rfl, HB.out _⟩
 ·have z1 : decide (k.size ≤ T) = false := decide_eq_false h2
  clear h1 h2
  go_enter Tryz.func59, Tryz.ntmps59
  go_wp2_with fail
  go_quiet ((go_at_call 70; exact Calls.quiet_of_same (HL _)))
  go_wp2
  go_ret
  exact ⟨rfl, HB.out _⟩
theorem Small.np {w : World} {B m x E T p : Nat} {a : Option Addr} {n c : Nat} {l : List ByteArray} (h : Small w B m x E T p a n c l) : m ≠ p := by
 rintro rfl
 have h1 := h.blk.blk
 rw [h.pk.blk] at h1
 simp at h1
theorem Small.nr {w : World} {B m x E T p : Nat} {a : Option Addr} {n c : Nat} {l : List ByteArray} (h : Small w B m x E T p a n c l) : some m ≠ a.map (·.block) := by
 intro hk
 obtain ⟨-, -, cur, h3⟩ := Dk.OwnR.lt (h.pk.own : Dk.OwnR w B 5 1 a n c _) hk.symm
 have h1 := h.blk.blk
 rw [h3] at h1
 simp at h1
def SmallTo (w w' : World) (B m x E T p : Nat) (a : Option Addr) (l : List ByteArray) : Prop := Moves w w' p a ∧ ∃ a' n' c', Small w' B m x E T p a' n' c' l ∧ Went w a a'
theorem Small.to {w w' : World} {B m x E T p : Nat} {a : Option Addr} {n c : Nat} {l r : List ByteArray} (h : Small w B m x E T p a n c l) {v : Value} {e : Ending} (ht : Turns w B p a r v e w') (hl : r.length ≤ E) (hs : Szs T r) (hn : r.Nodup) : SmallTo w w' B m x E T p a r := by
 obtain ⟨-, hm, a', n', c', hp, hw⟩ := ht
 exact ⟨hm, a', n', c', ⟨h.blk.kept (hm.block m h.blk.lt h.np h.nr), hp, h.low, hl, hs, hn, h.hE, h.hT⟩, hw⟩
theorem SmallTo.after {w w1 w2 : World} {B m x E T p : Nat} {a : Option Addr} {l : List ByteArray} (hb : Below w.heap.size w w1) (h : SmallTo w1 w2 B m x E T p a l) : SmallTo w w2 B m x E T p a l := by
 obtain ⟨hm, a', n', c', hp, hw⟩ := h
 exact ⟨Moves.after hb hm, a', n', c', hp, hw.after hb⟩
theorem Large.turn {w w' : World} {B m x E T d : Nat} {D D' : Dg} (h : Large w B m x E T d D) (hT : Turn w w' B d x D D') (hs : Szs 4096 (keysOf D'.es)) : Large w' B m x E T d D' := by
 have hm : m ∉ d :: D.pb :: Dk.fpL D.L := fun hm => by
  obtain ⟨cs, t, h1, h2⟩ := h.dc.tags m hm
  rw [h.blk.blk] at h1
  simp at h1
  rw [← h1.2] at h2
  revert h2
  decide
 exact ⟨h.blk.kept (hT.stay.block m h.blk.lt hm), hT.dct, h.low, hs, h.hE, h.hT⟩
def UnTo (w w' : World) (B m x E T d : Nat) (D : Dg) (l : List ByteArray) : Prop := Large w' B m x E T d D ∧ (keysOf D.es).Perm l ∧ Stay w w' [m] ∧ (∀ k ∈ d :: D.pb :: Dk.fpL D.L, w.heap.size ≤ k)
theorem Add_has (m : Nat) (k : ByteArray) (w : World) (h : k.size ≤ 4096) (HH : Calls Tryz.prog 58 #[ptr m, .string k] w fun e w' => e = .returned (.bool true) ∧ Below w.heap.size w w') :
  Calls Tryz.prog 17 #[ptr m, .string k] w fun e w' => e = .returned (.tuple #[.bool false, .int .i64 0]) ∧ Below w.heap.size w w' := by
 have hz : ¬ (4096 : Int) < k.size := by omega
 go_enter Tryz.func17, Tryz.ntmps17
 go_wp2_with fail
 refine HH.mono ?_
 rintro e w1 ⟨rfl, hb⟩
 have HB : Hid (Below w.heap.size w w1) := hb
 clear hb
 go_wp2
 go_ret2
 exact ⟨rfl, HB.out⟩
set_option maxRecDepth 100000 in
set_option maxHeartbeats 4000000 in
theorem Add_large (B m x E T d : Nat) (D : Dg) (k : ByteArray) (w : World) (h : Large w B m x E T d D) (hk : k.size ≤ 4096) (hno : k ∉ keysOf D.es) (hle : (keysOf D.es).length < 1000000) :
  Calls Tryz.prog 17 #[ptr m, .string k] w fun e w' => e = .returned (.tuple #[.bool true, .int .i64 0]) ∧ ∃ D', Turn w w' B d x D D' ∧ Large w' B m x E T d D' ∧ (keysOf D'.es).Perm (addM (keysOf D.es) k) := by
 have hz : ¬ (4096 : Int) < k.size := by omega
 have HH := Has_large B m x E T d D k w h (by unfold maxLen; omega)
 rw [hasM_no hno] at HH
 have HL : Hid (Large w B m x E T d D) := h
 have HSz : Hid (k.size ≤ 4096) := hk
 have HLe : Hid (D.es.length < 1000000) := by rw [keysOf, List.length_map] at hle; exact hle
 clear h hno hle hk
 go_enter Tryz.func17, Tryz.ntmps17
 go_wp2_with fail
 refine HH.mono ?_
 rintro e w1 ⟨rfl, hb⟩
 have HB : Hid (Below w.heap.size w w1) := hb
 have HP1 := Packed_no m x E T d _ w1 (HL.out.keep hb).blk
 have hc := (HL.out.keep hb).blk.cl
 have HPu := Dk.PutD B d x D k () w1 (HL.out.keep hb).dc (by have := HSz.out; unfold maxLen; omega) HLe.out
 clear hb HH
 go_wp2_with fail
 refine HP1.mono ?_
 rintro e w2 ⟨rfl, rfl⟩
 go_wp2_with fail
 refine HP1.mono ?_
 rintro e w2 ⟨rfl, rfl⟩
 go_wp2_with fail
 refine HPu.mono ?_
 rintro e w3 ⟨rfl, D', hT, hp⟩
 have hp2 : (keysOf D'.es).Perm (addM (keysOf D.es) k) := by
  have := hp.map Prod.fst
  rw [← keys_put D.es k ()]
  exact this
 have HR : Hid (Turn w w3 B d x D D' ∧ Large w3 B m x E T d D' ∧ (keysOf D'.es).Perm (addM (keysOf D.es) k)) := ⟨hT.first HB.out, (HL.out.keep HB.out).turn hT ((HL.out.sz.add HSz.out).perm hp2.symm), hp2⟩
 clear hT hp hp2
 go_wp2
 go_ret2
 exact ⟨rfl, D', HR.out⟩
set_option maxRecDepth 100000 in
set_option maxHeartbeats 4000000 in
theorem Add_small (B m x E T p : Nat) (a : Option Addr) (n c : Nat) (l : List ByteArray) (k : ByteArray) (w : World) (h : Small w B m x E T p a n c l) (hk : k.size ≤ T) (hno : k ∉ l) (hlt : l.length < E) :
  Calls Tryz.prog 17 #[ptr m, .string k] w fun e w' => e = .returned (.tuple #[.bool true, .int .i64 0]) ∧ SmallTo w w' B m x E T p a (l ++ [k]) := by
 have hsz : Szs T (l ++ [k]) := by
  intro s hs
  rcases List.mem_append.1 hs with h1 | h1
  ·exact h.sz s h1
  ·rw [List.mem_singleton.1 h1]; exact hk
 have hle : (l ++ [k]).length ≤ E := by simp; omega
 have hnd : (l ++ [k]).Nodup := by have := nodup_add h.nod k; rw [addM_no hno] at this; exact this
 have hT := h.hT
 have hE := h.hE
 have hz : ¬ (4096 : Int) < k.size := by omega
 have HH := Has_small B m x E T p a n c l k w h
 rw [hasM_no hno] at HH
 have HSm : Hid (Small w B m x E T p a n c l) := h
 have HTo : Hid (∀ {w1 wa : World} {v : Value} {e : Ending} {w' : World}, Below w.heap.size w w1 → Below w1.heap.size w1 wa → Turns wa B p a (l ++ [k]) v e w' → SmallTo w w' B m x E T p a (l ++ [k])) := fun h1 h2 ht => by
  have hb := h1.trans (h2.mono h1.size)
  exact ((h.keep hb).to ht hle hsz hnd).after hb
 have hfit : Fit [k] := fit_one (by omega)
 have hpk : (pack [k]).length ≤ 62 := pack_len62 [k] (fun s hs => by rw [List.mem_singleton.1 hs]; omega)
 have HIn : Hid (∀ w1, Below w.heap.size w w1 → ∀ wq, wq = w1.drew.alloc (.cells #[.string k] 9) → Calls Tryz.prog 61 #[ptr p, .int .i64 (l.length : Nat), .slice (some ⟨w1.drew.heap.size, 0, none⟩) 1 1] wq fun e w' => Turns wq B p a (l ++ [k]) (.int .i64 0) e w') := by
  intro w1 hb wq hq
  have hbd : Below w1.heap.size w1 w1.drew := below_drewN w1 1
  have hba : Below w1.heap.size w1 wq := by rw [hq]; exact hbd.trans (alloc_below w1.drew _)
  have hS := (h.keep hb).keep hba
  have HI := Insert_ok B p a n c l l.length (some ⟨w1.drew.heap.size, 0, none⟩) 1 1 [k] wq hS.pk h.fit (by have := h.max; omega) (Nat.le_refl _) (by rw [hq]; exact RdS.made w1.drew [k] 1 rfl (by decide) _ rfl) hfit (by decide) (by have := h.n; omega)
  rw [List.take_length, List.drop_length, List.append_nil] at HI
  exact HI
 have HFt := fun w' hb => sfits_yes B m x E T p a n c l k w' (h.keep hb) hk hlt
 clear h hsz hle hnd hno hfit hpk hlt hk
 go_enter Tryz.func17, Tryz.ntmps17
 go_wp2_with fail
 refine HH.mono ?_
 rintro e w1 ⟨rfl, hb⟩
 have HB : Hid (Below w.heap.size w w1) := hb
 have HP1 := Packed_yes m x E T _ w1 (HSm.out.keep hb).blk
 have HF1 := HFt w1 hb
 clear hb HH
 go_wp2_with fail
 refine HP1.mono ?_
 rintro e w2 ⟨rfl, rfl⟩
 go_wp2_with fail
 refine HF1.mono ?_
 rintro e w3 ⟨rfl, hb⟩
 have HB3 := step_below HB hb
 have HP3 := Packed_yes m x E T _ w3 (HSm.out.keep HB3.out).blk
 clear hb HF1 HP1 HFt
 go_wp2_with fail
 refine HP3.mono ?_
 rintro e w4 ⟨rfl, rfl⟩
 have hbd : Below w4.heap.size w4 w4.drew := below_drewN w4 1
 have HBa : Hid (Below w4.heap.size w4 (w4.drew.alloc (.cells #[.string k] 9))) := hbd.trans (alloc_below w4.drew _)
 have HI := HIn.out w4 HB3.out _ rfl
 have hS4 := HSm.out.keep HB3.out
 have HLd := Len_any B p a n c l w4.drew (hS4.keep hbd).pk
 have HLa := Len_any B p a n c l (w4.drew.alloc (.cells #[.string k] 9)) (hS4.keep HBa.out).pk
 have HSd : Hid (w4.drew.cell? ⟨m, 3, none⟩ = some (ptr p)) := (hS4.keep hbd).blk.cs
 have HSa : Hid ((w4.drew.alloc (.cells #[.string k] 9)).cell? ⟨m, 3, none⟩ = some (ptr p)) := (hS4.keep HBa.out).blk.cs
 have HEn : Hid (∀ {v : Value} {e : Ending} {w' : World}, Turns (w4.drew.alloc (.cells #[.string k] 9)) B p a (l ++ [k]) v e w' → SmallTo w w' B m x E T p a (l ++ [k]) ∧ w'.cell? ⟨m, 3, none⟩ = some (ptr p)) := fun ht => by
  have h1 := HTo.out HB3.out HBa.out ht
  have h3 := h1.2
  obtain ⟨_, _, _, h2, _⟩ := h3
  exact ⟨h1, h2.blk.cs⟩
 generalize l.length = q at HI HLd HLa
 clear hbd hS4 HIn HTo HP3 HSm
 go_wp2_with fail
 go_region_held3 (fun w' => w'.cell? ⟨m, 3, none⟩ = some (ptr p)) (first | exact HSz.out | exact HSd.out | exact HSa.out) (first
  | (go_at_call 62; refine HLd.mono ?_; rintro e wx ⟨rfl, rfl⟩)
  | (go_at_call 62; refine HLa.mono ?_; rintro e wx ⟨rfl, rfl⟩)
  | (go_at_call 61; refine HI.mono ?_; rintro e wz ht; have HR : Hid (SmallTo w wz B m x E T p a (l ++ [k])) := (HEn.out ht).1; have HSz : Hid (wz.cell? ⟨m, 3, none⟩ = some (ptr p)) := (HEn.out ht).2; obtain ⟨rfl, -⟩ := ht))
 all_goals
  go_wp2
  go_ret2
  exact ⟨rfl, HR.out⟩
set_option maxRecDepth 100000 in
set_option maxHeartbeats 4000000 in
theorem Add_un (B m x E T p : Nat) (a : Option Addr) (n c : Nat) (l : List ByteArray) (k : ByteArray) (w : World) (hx : x < 18446744073709551616) (h : Small w B m x E T p a n c l) (hB : B ≤ w.heap.size) (hk : k.size ≤ 4096) (hno : k ∉ l) (hf : ¬ (k.size ≤ T ∧ l.length < E)) :
  Calls Tryz.prog 17 #[ptr m, .string k] w fun e w' => e = .returned (.tuple #[.bool true, .int .i64 0]) ∧ ∃ d D', UnTo w w' B m x E T d D' (l ++ [k]) := by
 have hz : ¬ (4096 : Int) < k.size := by omega
 have HH := Has_small B m x E T p a n c l k w h
 rw [hasM_no hno] at HH
 have HSm : Hid (Small w B m x E T p a n c l) := h
 have HFt := fun w' hb => sfits_no B m x E T p a n c l k w' (h.keep hb) hf
 have HSz : Hid (k.size ≤ 4096) := hk
 have HNo : Hid (k ∉ l) := hno
 have HLe : Hid (l.length ≤ 512) := by have := h.le; have := h.hE; show _ ≤ _; omega
 clear h hf hk hno
 go_enter Tryz.func17, Tryz.ntmps17
 go_wp2_with fail
 refine HH.mono ?_
 rintro e w1 ⟨rfl, hb⟩
 have HB : Hid (Below w.heap.size w w1) := hb
 have HP1 := Packed_yes m x E T _ w1 (HSm.out.keep hb).blk
 have HF1 := HFt w1 hb
 clear hb HH
 go_wp2_with fail
 refine HP1.mono ?_
 rintro e w2 ⟨rfl, rfl⟩
 go_wp2_with fail
 refine HF1.mono ?_
 rintro e w3 ⟨rfl, hb⟩
 have HB3 := step_below HB hb
 have HUn := unpack_any B m x E T p a n c l w3 hx (HSm.out.keep HB3.out) (Nat.le_trans hB HB3.out.size)
 clear hb HF1 HP1 HFt
 go_wp2_with fail
 refine HUn.mono ?_
 rintro e w4 ⟨rfl, d, D, hL, hp, hst, hnw⟩
 have hc := hL.blk.cl
 have HP4 := Packed_no m x E T d _ w4 hL.blk
 have HPu := Dk.PutD B d x D k () w4 hL.dc (by have := HSz.out; unfold maxLen; omega) (by have := hp.length_eq; rw [keysOf, List.length_map] at this; have := HLe.out; omega)
 have HL3 : Hid (Large w4 B m x E T d D ∧ (keysOf D.es).Perm l ∧ Stay w3 w4 [m] ∧ (∀ k ∈ d :: D.pb :: Dk.fpL D.L, w3.heap.size ≤ k)) := ⟨hL, hp, hst, hnw⟩
 clear hL hp hst hnw
 go_wp2_with fail
 refine HP4.mono ?_
 rintro e w5 ⟨rfl, rfl⟩
 go_wp2_with fail
 refine HPu.mono ?_
 rintro e w6 ⟨rfl, D', hT, hp⟩
 have hp2 : (keysOf D'.es).Perm (l ++ [k]) := by
  have h5 : (keysOf D'.es).Perm (keysOf (putE D.es k ())) := hp.map Prod.fst
  rw [keys_put D.es k ()] at h5
  have h6 := addM_perm HL3.out.2.1 k
  rw [addM_no HNo.out] at h6
  exact h5.trans h6
 have hsz : Szs 4096 (keysOf D'.es) := by
  refine Szs.perm ?_ hp2.symm
  intro s hs
  rcases List.mem_append.1 hs with h1 | h1
  ·exact (HSm.out.sz.mono (by have := HSm.out.hT; omega)) s h1
  ·rw [List.mem_singleton.1 h1]; exact HSz.out
 have HR : Hid (UnTo w w6 B m x E T d D' (l ++ [k])) := ⟨HL3.out.1.turn hT hsz, hp2, (Stay.of_below HB3.out _).trans (HL3.out.2.2.1.trans (M' := d :: D.pb :: Dk.fpL D.L) hT.stay (fun i hi => .inr (HL3.out.2.2.2 i hi))) (fun i hi => .inl hi), fun i hi => (hT.fps i hi).elim (fun h => Nat.le_trans HB3.out.size (HL3.out.2.2.2 i h)) (fun h => Nat.le_trans HB3.out.size (Nat.le_trans HL3.out.2.2.1.size h))⟩
 clear hT hp hp2 hsz
 go_wp2
 go_ret2
 exact ⟨rfl, d, D', HR.out⟩
def htag (t : TypeId) : Bool := dtag t || t == 89 || t == 132 || t == 5
def Ss (w : World) (B m x E T : Nat) (l : List ByteArray) (pk : Bool) (F : List Nat) : Prop :=
 x < 18446744073709551616 ∧ B ≤ w.heap.size ∧ ((pk = true ∧ ∃ p a n c r, Small w B m x E T p a n c r ∧ r.Perm l ∧ F = m :: pfp p a) ∨ (pk = false ∧ ∃ d D, Large w B m x E T d D ∧ (keysOf D.es).Perm l ∧ F = m :: d :: D.pb :: Dk.fpL D.L))
theorem Ss.keep {w wn : World} {B m x E T : Nat} {l : List ByteArray} {pk : Bool} {F : List Nat} (h : Ss w B m x E T l pk F) (hb : Below w.heap.size w wn) : Ss wn B m x E T l pk F := by
 obtain ⟨h1, h2, h3⟩ := h
 refine ⟨h1, Nat.le_trans h2 hb.size, ?_⟩
 rcases h3 with ⟨h3, p, a, n, c, fs, h4, h5⟩ | ⟨h3, d, D, h4, h5⟩
 ·exact .inl ⟨h3, p, a, n, c, fs, h4.keep hb, h5⟩
 ·exact .inr ⟨h3, d, D, h4.keep hb, h5⟩
theorem mem_pfp {p : Nat} {a : Option Addr} {k : Nat} (h : k ∈ pfp p a) : k = p ∨ a.map (·.block) = some k := by
 unfold pfp at h
 rcases List.mem_cons.1 h with h | h
 ·exact .inl h
 ·exact .inr (Option.mem_toList.1 h)
theorem pfp_mem {p : Nat} {a : Option Addr} {k : Nat} (h : k = p ∨ a.map (·.block) = some k) : k ∈ pfp p a := by
 unfold pfp
 rcases h with h | h
 ·exact List.mem_cons.2 (.inl h)
 ·exact List.mem_cons.2 (.inr (Option.mem_toList.2 h))
theorem Ss.tags {w : World} {B m x E T : Nat} {l : List ByteArray} {pk : Bool} {F : List Nat} (h : Ss w B m x E T l pk F) : ∀ k ∈ F, B ≤ k ∧ k < w.heap.size ∧ ∃ cs t, w.heap[k]? = some (.cells cs t (0, 0)) ∧ htag t = true := by
 obtain ⟨h1, h2, h3⟩ := h
 intro k hk
 rcases h3 with ⟨h3, p, a, n, c, fs, h4, h5, rfl⟩ | ⟨h3, d, D, h4, h5, rfl⟩
 ·rcases List.mem_cons.1 hk with rfl | hk
  ·exact ⟨h4.low, h4.blk.lt, _, _, h4.blk.blk, rfl⟩
  rcases mem_pfp hk with rfl | hk
  ·exact ⟨h4.pk.low, h4.pk.lt, _, _, h4.pk.blk, rfl⟩
  ·obtain ⟨k1, k2, cur, k3⟩ := Dk.OwnR.lt (h4.pk.own : Dk.OwnR w B 5 1 a n c _) hk
   exact ⟨k1, k2, _, _, k3, rfl⟩
 ·rcases List.mem_cons.1 hk with rfl | hk
  ·exact ⟨h4.low, h4.blk.lt, _, _, h4.blk.blk, rfl⟩
  ·obtain ⟨cs, t, k1, k2⟩ := h4.dc.tags k hk
   exact ⟨(h4.dc.fplt k hk).1, (h4.dc.fplt k hk).2, cs, t, k1, by unfold htag; rw [k2]; rfl⟩
theorem Ss.lower {w : World} {B C m x E T : Nat} {l : List ByteArray} {pk : Bool} {F : List Nat} (h : Ss w B m x E T l pk F) (hC : C ≤ B) : Ss w C m x E T l pk F := by
 obtain ⟨h1, h2, h3⟩ := h
 refine ⟨h1, Nat.le_trans hC h2, ?_⟩
 rcases h3 with ⟨h3, p, a, n, c, fs, h4, h5, rfl⟩ | ⟨h3, d, D, h4, h5, rfl⟩
 ·exact .inl ⟨h3, p, a, n, c, fs, ⟨h4.blk, h4.pk.low' hC, Nat.le_trans hC h4.low, h4.le, h4.sz, h4.nod, h4.hE, h4.hT⟩, h5, rfl⟩
 ·exact .inr ⟨h3, d, D, ⟨h4.blk, Dct.lower h4.dc hC, Nat.le_trans hC h4.low, h4.sz, h4.hE, h4.hT⟩, h5, rfl⟩
def STo (w w' : World) (B m x E T : Nat) (l : List ByteArray) (pk : Bool) (F : List Nat) : Prop := ∃ F', Ss w' B m x E T l pk F' ∧ Stay w w' F ∧ (∀ k ∈ F', k ∈ F ∨ w.heap.size ≤ k)
theorem STo.below {w w' : World} {B m x E T : Nat} {l r : List ByteArray} {pk pk' : Bool} {F : List Nat} (h : STo w w' B m x E T l pk F) (h0 : Ss w B m x E T r pk' F) : Below B w w' := by
 obtain ⟨F', -, h2, -⟩ := h
 exact h2.below (fun k hk => (h0.tags k hk).1) h0.2.1
theorem STo.same {w w' : World} {B m x E T : Nat} {l : List ByteArray} {pk : Bool} {F : List Nat} (h : Ss w B m x E T l pk F) (hb : Below w.heap.size w w') : STo w w' B m x E T l pk F := ⟨F, h.keep hb, Stay.of_below hb F, fun _ hk => .inl hk⟩
theorem SmallTo.hto {w w' : World} {B m x E T p : Nat} {a : Option Addr} {l r : List ByteArray} (h : SmallTo w w' B m x E T p a r) (hp : r.Perm l) (hx : x < 18446744073709551616) (hB : B ≤ w.heap.size) : STo w w' B m x E T l true (m :: pfp p a) := by
 obtain ⟨hm, a', n', c', h1, h2⟩ := h
 refine ⟨m :: pfp p a', ⟨hx, Nat.le_trans hB hm.size, .inl ⟨rfl, p, a', n', c', r, h1, hp, rfl⟩⟩, ⟨hm.os, hm.tape, hm.output, hm.size, fun k hk hn => hm.block k hk (fun e => hn (List.mem_cons_of_mem _ (pfp_mem (.inl e)))) (fun e => hn (List.mem_cons_of_mem _ (pfp_mem (.inr e.symm))))⟩, ?_⟩
 intro k hk
 rcases List.mem_cons.1 hk with rfl | hk
 ·exact .inl (by simp)
 rcases mem_pfp hk with rfl | hk
 ·exact .inl (List.mem_cons_of_mem _ (pfp_mem (.inl rfl)))
 ·exact (h2.blk hk).imp (fun h => List.mem_cons_of_mem _ (pfp_mem (.inr h))) id
theorem turn_hto {w w' : World} {B m x E T d : Nat} {D D' : Dg} {l : List ByteArray} (hT : Turn w w' B d x D D') (h : Large w' B m x E T d D') (hp : (keysOf D'.es).Perm l) (hx : x < 18446744073709551616) (hB : B ≤ w.heap.size) : STo w w' B m x E T l false (m :: d :: D.pb :: Dk.fpL D.L) := by
 refine ⟨_, ⟨hx, Nat.le_trans hB hT.stay.size, .inr ⟨rfl, d, D', h, hp, rfl⟩⟩, hT.stay.mono (fun k hk => List.mem_cons_of_mem _ hk), ?_⟩
 intro k hk
 rcases List.mem_cons.1 hk with rfl | hk
 ·exact .inl (by simp)
 ·exact (hT.fps k hk).imp (fun h => List.mem_cons_of_mem _ h) id
theorem NewS (x : Nat) (e t : Int) (w : World) (hx : x < 18446744073709551616) :
  Calls Tryz.prog 68 #[.int .u64 x, .agg #[.int .i64 e, .int .i64 t]] w fun en w' => Below w.heap.size w w' ∧ ∃ m F, en = .returned (ptr m) ∧ Ss w' w.heap.size m x (lim e 512) (lim t 60) [] true F := by
 refine (New_hm x e t w).mono ?_
 rintro en w' ⟨hb, m, p, a, n, c, rfl, h⟩
 exact ⟨hb, m, _, rfl, hx, hb.size, .inl ⟨rfl, p, a, n, c, [], h, List.Perm.refl _, rfl⟩⟩
theorem PackedS (B m x E T : Nat) (l : List ByteArray) (pk : Bool) (F : List Nat) (w : World) (h : Ss w B m x E T l pk F) : Calls Tryz.prog 36 #[ptr m] w fun e w' => e = .returned (.bool pk) ∧ w' = w := by
 obtain ⟨h1, h2, h3⟩ := h
 rcases h3 with ⟨rfl, p, a, n, c, fs, h4, h5, rfl⟩ | ⟨rfl, d, D, h4, h5, rfl⟩
 ·exact Packed_yes m x E T _ w h4.blk
 ·exact Packed_no m x E T d _ w h4.blk
theorem LenS (B m x E T : Nat) (l : List ByteArray) (pk : Bool) (F : List Nat) (w : World) (h : Ss w B m x E T l pk F) : Calls Tryz.prog 70 #[ptr m] w fun e w' => e = .returned (.int .i64 (l.length : Nat)) ∧ w' = w := by
 obtain ⟨h1, h2, h3⟩ := h
 rcases h3 with ⟨rfl, p, a, n, c, fs, h4, h5, rfl⟩ | ⟨rfl, d, D, h4, h5, rfl⟩
 ·rw [← h5.length_eq]; exact Len_small B m x E T p a n c fs w h4
 ·rw [← h5.length_eq]; exact Len_large B m x E T d D w h4
theorem AllS (B m x E T : Nat) (l : List ByteArray) (pk : Bool) (F : List Nat) (w : World) (h : Ss w B m x E T l pk F) : Calls Tryz.prog 38 #[ptr m] w fun e w' => Below w.heap.size w w' ∧ ∃ a n c r, e = .returned (.slice a n c) ∧ OwnS w' w.heap.size a n c r ∧ r.Perm l := by
 obtain ⟨h1, h2, h3⟩ := h
 rcases h3 with ⟨rfl, p, a, n, c, fs, h4, h5, rfl⟩ | ⟨rfl, d, D, h4, h5, rfl⟩
 ·refine (All_small B m x E T p a n c fs w h4).mono ?_
  rintro e w' ⟨hb, a2, n2, c2, rfl, hO⟩
  exact ⟨hb, a2, n2, c2, fs, rfl, hO, h5⟩
 ·refine (All_large B m x E T d D w h4).mono ?_
  rintro e w' ⟨hb, a2, n2, c2, fs, rfl, hO, hp⟩
  exact ⟨hb, a2, n2, c2, fs, rfl, hO, hp.trans h5⟩
theorem HasS (B m x E T : Nat) (l : List ByteArray) (pk : Bool) (F : List Nat) (k : ByteArray) (w : World) (h : Ss w B m x E T l pk F) (hk : k.size ≤ maxLen) : Calls Tryz.prog 58 #[ptr m, .string k] w fun e w' => e = .returned (.bool (hasM l k)) ∧ Below w.heap.size w w' := by
 obtain ⟨h1, h2, h3⟩ := h
 rcases h3 with ⟨rfl, p, a, n, c, fs, h4, h5, rfl⟩ | ⟨rfl, d, D, h4, h5, rfl⟩
 ·rw [← hasM_perm h5]
  exact Has_small B m x E T p a n c fs k w h4
 ·rw [← hasM_perm h5]
  exact Has_large B m x E T d D k w h4 hk
def pkA (l : List ByteArray) (pk : Bool) (E T : Nat) (k : ByteArray) : Bool := if hasM l k = true then pk else pk && decide (l.length + 1 ≤ E) && decide (k.size ≤ T)
theorem AddS (B m x E T : Nat) (l : List ByteArray) (pk : Bool) (F : List Nat) (k : ByteArray) (w : World) (h : Ss w B m x E T l pk F) (hk : k.size ≤ 4096) (hle : l.length < 1000000) :
  Calls Tryz.prog 17 #[ptr m, .string k] w fun e w' => e = .returned (.tuple #[.bool (!hasM l k), .int .i64 0]) ∧ STo w w' B m x E T (addM l k) (pkA l pk E T k) F := by
 have h0 := h
 by_cases hm : k ∈ l
 ·have hh := hasM_yes hm
  rw [hh, addM_yes hm, show pkA l pk E T k = pk by unfold pkA; rw [if_pos hh]]
  have HH := HasS B m x E T l pk F k w h (by unfold maxLen; omega)
  rw [hh] at HH
  refine (Add_has m k w hk HH).mono ?_
  rintro e w' ⟨rfl, hb⟩
  exact ⟨rfl, STo.same h0 hb⟩
 ·have hh := hasM_no hm
  have e1 : pkA l pk E T k = (pk && decide (l.length + 1 ≤ E) && decide (k.size ≤ T)) := by unfold pkA; rw [if_neg (by rw [hh]; decide)]
  rw [hh, addM_no hm, e1]
  obtain ⟨h1, h2, h3⟩ := h
  rcases h3 with ⟨rfl, p, a, n, c, fs, h4, h5, rfl⟩ | ⟨rfl, d, D, h4, h5, rfl⟩
  ·have hl5 := h5.length_eq
   have hm2 : k ∉ fs := fun h => hm (h5.mem_iff.1 h)
   by_cases hf : k.size ≤ T ∧ fs.length < E
   ·rw [show (true && decide (l.length + 1 ≤ E) && decide (k.size ≤ T)) = true by simp; omega]
    refine (Add_small B m x E T p a n c fs k w h4 hf.1 hm2 hf.2).mono ?_
    rintro e w' ⟨rfl, ht⟩
    exact ⟨rfl, ht.hto (h5.append_right _) h1 h2⟩
   ·rw [show (true && decide (l.length + 1 ≤ E) && decide (k.size ≤ T)) = false by simp; omega]
    refine (Add_un B m x E T p a n c fs k w h1 h4 h2 hk hm2 hf).mono ?_
    rintro e w' ⟨rfl, d, D', hL, hp, hs, hn⟩
    refine ⟨rfl, _, ⟨h1, Nat.le_trans h2 hs.size, .inr ⟨rfl, d, D', hL, hp.trans (h5.append_right _), rfl⟩⟩, hs.mono (fun i hi => by simp only [List.mem_singleton] at hi; simp [hi]), ?_⟩
    intro i hi
    rcases List.mem_cons.1 hi with rfl | hi
    ·exact .inl (by simp)
    ·exact .inr (hn i hi)
  ·rw [show (false && decide (l.length + 1 ≤ E) && decide (k.size ≤ T)) = false by simp]
   have hm2 : k ∉ keysOf D.es := fun h => hm (h5.mem_iff.1 h)
   refine (Add_large B m x E T d D k w h4 hk hm2 (by rw [h5.length_eq]; exact hle)).mono ?_
   rintro e w' ⟨rfl, D', hT, hL, hp⟩
   rw [addM_no hm2] at hp
   exact ⟨rfl, turn_hto hT hL (hp.trans (h5.append_right _)) h1 h2⟩
end Go.Proofs.YtikimcbalkhooaaGreat.Zs
