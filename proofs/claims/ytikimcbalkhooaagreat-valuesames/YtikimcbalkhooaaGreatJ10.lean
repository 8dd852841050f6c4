/- Texts that the others stand on. -/
import Derived.Test.YtikimcbalkhooaaGreatJ4
import Derived.Test.YtikimcbalkhooaaGreatJ9
import Derived.Deep.RegionHeld3
namespace Go.Proofs.YtikimcbalkhooaaGreat
open Go.RowKit Go.PlainAid
open Dk (En Stay hasK putE getE keysOf Dct Dg dtag)
def flat (es : List En) : List ByteArray := es.flatMap fun e => [e.1, e.2]
theorem flat_cons (e : En) (es : List En) : flat (e :: es) = e.1 :: e.2 :: flat es := rfl
theorem flat_append (a b : List En) : flat (a ++ b) = flat a ++ flat b := List.flatMap_append ..
theorem flat_len (es : List En) : (flat es).length = 2 * es.length := by
 induction es with
 | nil => rfl
 | cons e es ih => rw [flat_cons, List.length_cons, List.length_cons, List.length_cons, ih]; omega
def Sz (T : Nat) (es : List En) : Prop := ∀ e ∈ es, e.1.size ≤ T ∧ e.2.size ≤ T
theorem flat_size {T : Nat} {es : List En} (h : Sz T es) : ∀ s ∈ flat es, s.size ≤ T := by
 intro s hs
 obtain ⟨e, he, h1⟩ := List.mem_flatMap.1 hs
 simp only [List.mem_cons, List.not_mem_nil, or_false] at h1
 rcases h1 with rfl | rfl
 ·exact (h e he).1
 ·exact (h e he).2
theorem Sz.fit {T : Nat} {es : List En} (h : Sz T es) (hT : T ≤ 4096) : Fit (flat es) := fun s hs => Nat.le_trans (flat_size h s hs) hT
theorem Sz.mono {T U : Nat} {es : List En} (h : Sz T es) (hT : T ≤ U) : Sz U es := fun e he => ⟨Nat.le_trans (h e he).1 hT, Nat.le_trans (h e he).2 hT⟩
theorem Sz.perm {T : Nat} {es fs : List En} (h : Sz T es) (hp : es.Perm fs) : Sz T fs := fun e he => h e (hp.mem_iff.2 he)
theorem Sz.put {T : Nat} {es : List En} (h : Sz T es) {k v : ByteArray} (hk : k.size ≤ T) (hv : v.size ≤ T) : Sz T (putE es k v) := by
 intro e he
 unfold putE at he
 split at he
 ·obtain ⟨f, hf, rfl⟩ := List.mem_map.1 he
  split
  ·exact ⟨hk, hv⟩
  ·exact h f hf
 ·rcases List.mem_append.1 he with h1 | h1
  ·exact h e h1
  ·simp only [List.mem_singleton] at h1; subst h1; exact ⟨hk, hv⟩
theorem enc_len62 {l : List UInt8} (h : l.length ≤ 60) : (enc l).length ≤ 62 := by
 have hb : (body l).length ≤ 61 := by
  rcases body_ways l with ⟨n, h0, h1, e⟩ | ⟨n, h0, h1, e⟩ | ⟨h0, h1, e⟩ | ⟨h0, h1, e⟩ <;> rw [e]
  ·simp
  ·rw [List.length_cons, be_len]; omega
  ·simp; omega
  ·omega
 have h2 := back_len (body l).length
 unfold enc
 rw [List.length_append]
 split at h2 <;> omega
theorem pack_len62 (ls : List ByteArray) (h : ∀ s ∈ ls, s.size ≤ 60) : (pack ls).length ≤ 62 * ls.length := by
 induction ls with
 | nil => simp [pack]
 | cons s l ih =>
  have h1 := enc_len62 (l := lst s) (by rw [len_lst]; exact h s (by simp))
  have h2 := ih (fun t ht => h t (List.mem_cons_of_mem _ ht))
  rw [pack, List.length_append, List.length_cons]
  omega
theorem fnd_no {es : List En} {k : ByteArray} : ∀ (f i : Nat), k ∉ keysOf (es.drop i) → fnd (flat es) k 2 f (2 * i) = -1
 | 0, _, _ => rfl
 | f + 1, i, h => by
  rw [fnd]
  split
  ·rename_i hi
   rw [flat_len] at hi
   have hi' : i < es.length := by omega
   have e1 : txt (flat es) (2 * i) = es[i].1 := by
    unfold txt
    conv => lhs; rw [show flat es = flat (es.take i) ++ flat (es.drop i) by rw [← flat_append, List.take_append_drop]]
    rw [List.getD_eq_getElem?_getD, List.getElem?_append_right (by rw [flat_len, List.length_take]; omega), flat_len, List.length_take, List.drop_eq_getElem_cons hi', flat_cons, show 2 * i - 2 * min i es.length = 0 by omega]
    rfl
   rw [List.drop_eq_getElem_cons hi'] at h
   rw [e1, if_neg (fun e => h (by rw [← e]; exact List.mem_cons_self ..))]
   exact fnd_no f (i + 1) (fun hm => h (List.mem_cons_of_mem _ hm))
  ·rfl
theorem fnd_yes {es : List En} {k u : ByteArray} {a c : List En} (e : es = a ++ (k, u) :: c) (hk : k ∉ keysOf a) : ∀ (f i : Nat), i ≤ a.length → a.length < f + i → fnd (flat es) k 2 f (2 * i) = ((2 * a.length : Nat) : Int)
 | 0, i, h1, h2 => by omega
 | f + 1, i, h1, h2 => by
  have hl : es.length = a.length + (c.length + 1) := by rw [e, List.length_append, List.length_cons]
  have hi' : i < es.length := by omega
  have e1 : txt (flat es) (2 * i) = es[i].1 := by
   unfold txt
   conv => lhs; rw [show flat es = flat (es.take i) ++ flat (es.drop i) by rw [← flat_append, List.take_append_drop]]
   rw [List.getD_eq_getElem?_getD, List.getElem?_append_right (by rw [flat_len, List.length_take]; omega), flat_len, List.length_take, List.drop_eq_getElem_cons hi', flat_cons, show 2 * i - 2 * min i es.length = 0 by omega]
   rfl
  rw [fnd, if_pos (by rw [flat_len]; omega), e1]
  rcases Nat.lt_or_ge i a.length with h3 | h3
  ·have e2 : es[i] = a[i] := by
    have : es[i]? = some a[i] := by rw [e, List.getElem?_append_left h3, List.getElem?_eq_getElem h3]
    rw [List.getElem?_eq_getElem hi'] at this
    exact Option.some.inj this
   rw [e2, if_neg (fun e => hk (List.mem_map.2 ⟨a[i], List.getElem_mem h3, e⟩))]
   exact fnd_yes e hk f (i + 1) (by omega) (by omega)
  ·have hia : i = a.length := by omega
   subst hia
   have e2 : es[a.length] = (k, u) := by
    have : es[a.length]? = some (k, u) := by rw [e, List.getElem?_append_right (Nat.le_refl _), Nat.sub_self]; rfl
    rw [List.getElem?_eq_getElem hi'] at this
    exact Option.some.inj this
   rw [e2, if_pos rfl]
structure Hb (w : World) (m x E T : Nat) (s l : Value) : Prop where
 blk : w.heap[m]? = some (.cells #[.int .u64 (x : Nat), .int .i64 (E : Nat), .int .i64 (T : Nat), s, l] 83 (0, 0))
theorem Hb.lt {w : World} {m x E T : Nat} {s l : Value} (h : Hb w m x E T s l) : m < w.heap.size := (Array.getElem?_eq_some_iff.1 h.blk).1
theorem Hb.kept {w wn : World} {m x E T : Nat} {s l : Value} (h : Hb w m x E T s l) (hb : wn.heap[m]? = w.heap[m]?) : Hb wn m x E T s l := ⟨by rw [hb]; exact h.blk⟩
theorem Hb.keep {w wn : World} {m x E T : Nat} {s l : Value} (h : Hb w m x E T s l) (hb : Below w.heap.size w wn) : Hb wn m x E T s l := h.kept (hb.block m h.lt)
theorem Hb.cx {w : World} {m x E T : Nat} {s l : Value} (h : Hb w m x E T s l) : w.cell? ⟨m, 0, none⟩ = some (.int .u64 (x : Nat)) := by simp [World.cell?, h.blk]
theorem Hb.cE {w : World} {m x E T : Nat} {s l : Value} (h : Hb w m x E T s l) : w.cell? ⟨m, 1, none⟩ = some (.int .i64 (E : Nat)) := by simp [World.cell?, h.blk]
theorem Hb.cT {w : World} {m x E T : Nat} {s l : Value} (h : Hb w m x E T s l) : w.cell? ⟨m, 2, none⟩ = some (.int .i64 (T : Nat)) := by simp [World.cell?, h.blk]
theorem Hb.cs {w : World} {m x E T : Nat} {s l : Value} (h : Hb w m x E T s l) : w.cell? ⟨m, 3, none⟩ = some s := by simp [World.cell?, h.blk]
theorem Hb.cl {w : World} {m x E T : Nat} {s l : Value} (h : Hb w m x E T s l) : w.cell? ⟨m, 4, none⟩ = some l := by simp [World.cell?, h.blk]
theorem Hb.fz {w : World} {m x E T : Nat} {s l : Value} (h : Hb w m x E T s l) (o : Nat) : w.frozen? ⟨m, o, none⟩ = false := by simp [World.frozen?, h.blk]
theorem Hb.setS {w : World} {m x E T : Nat} {s l : Value} (h : Hb w m x E T s l) (v : Value) : Hb (w.setCell ⟨m, 3, none⟩ v) m x E T v l := ⟨by rw [Dk.heap_set h.blk]; rfl⟩
theorem Hb.setL {w : World} {m x E T : Nat} {s l : Value} (h : Hb w m x E T s l) (v : Value) : Hb (w.setCell ⟨m, 4, none⟩ v) m x E T s v := ⟨by rw [Dk.heap_set h.blk]; rfl⟩
def pfp (p : Nat) (a : Option Addr) : List Nat := p :: (a.map (·.block)).toList
structure Small (w : World) (B m x E T p : Nat) (a : Option Addr) (n c : Nat) (es : List En) : Prop where
 blk : Hb w m x E T (ptr p) (.pointer none)
 pk : Pk w B p a n c (flat es)
 low : B ≤ m
 le : es.length ≤ E
 sz : Sz T es
 nod : (keysOf es).Nodup
 hE : E ≤ 512
 hT : T ≤ 60
structure Large (w : World) (B m x E T d : Nat) (D : Dg) : Prop where
 blk : Hb w m x E T (.pointer none) (ptr d)
 dc : Dct w B d x D
 low : B ≤ m
 sz : Sz 4096 D.es
 hE : E ≤ 512
 hT : T ≤ 60
theorem Small.keep {w wn : World} {B m x E T p : Nat} {a : Option Addr} {n c : Nat} {es : List En} (h : Small w B m x E T p a n c es) (hb : Below w.heap.size w wn) : Small wn B m x E T p a n c es := ⟨h.blk.keep hb, h.pk.keep hb, h.low, h.le, h.sz, h.nod, h.hE, h.hT⟩
theorem Large.keep {w wn : World} {B m x E T d : Nat} {D : Dg} (h : Large w B m x E T d D) (hb : Below w.heap.size w wn) : Large wn B m x E T d D := ⟨h.blk.keep hb, h.dc.keep hb, h.low, h.sz, h.hE, h.hT⟩
theorem Small.fit {w : World} {B m x E T p : Nat} {a : Option Addr} {n c : Nat} {es : List En} (h : Small w B m x E T p a n c es) : Fit (flat es) := h.sz.fit (by have := h.hT; omega)
theorem Small.n {w : World} {B m x E T p : Nat} {a : Option Addr} {n c : Nat} {es : List En} (h : Small w B m x E T p a n c es) : n ≤ 124 * es.length := by
 have h1 := pack_len62 (flat es) (flat_size (h.sz.mono h.hT))
 rw [flat_len] at h1
 have := h.pk.len
 omega
theorem Small.max {w : World} {B m x E T p : Nat} {a : Option Addr} {n c : Nat} {es : List En} (h : Small w B m x E T p a n c es) : n ≤ 63488 := by
 have := h.n; have := h.le; have := h.hE; omega
theorem Packed_yes (m x E T : Nat) (s : Value) (w : World) (h : Hb w m x E T s (.pointer none)) : Calls Tryz.prog 33 #[ptr m] w fun e w' => e = .returned (.bool true) ∧ w' = w := by
 have hc := h.cl
 clear h
 go_enter Tryz.func33, Tryz.ntmps33
 go_wp2
 go_ret
 exact ⟨rfl, rfl⟩
theorem Packed_no (m x E T d : Nat) (s : Value) (w : World) (h : Hb w m x E T s (ptr d)) : Calls Tryz.prog 33 #[ptr m] w fun e w' => e = .returned (.bool false) ∧ w' = w := by
 have hc := h.cl
 clear h
 go_enter Tryz.func33, Tryz.ntmps33
 go_wp2
 go_ret
 exact ⟨rfl, rfl⟩
theorem Len_small (B m x E T p : Nat) (a : Option Addr) (n c : Nat) (es : List En) (w : World) (h : Small w B m x E T p a n c es) : Calls Tryz.prog 53 #[ptr m] w fun e w' => e = .returned (.int .i64 (es.length : Nat)) ∧ Below w.heap.size w w' := by
 have hc := h.blk.cs
 have HP := Packed_yes m x E T _ w h.blk
 have HL := Len_any B p a n c (flat es) w h.pk
 rw [flat_len] at HL
 obtain ⟨k, hk⟩ : ∃ k, es.length = k := ⟨_, rfl⟩
 rw [hk] at HL ⊢
 have hk2 : k ≤ 512 := by have := h.le; have := h.hE; omega
 have hq : ((2 * k : Nat) : Int).tdiv 2 = (k : Int) := by rw [Int.tdiv_eq_ediv_of_nonneg (by omega)]; omega
 clear h hk
 go_enter Tryz.func53, Tryz.ntmps53
 go_wp2_with fail
 refine HP.mono ?_
 rintro e w1 ⟨rfl, rfl⟩
 go_wp2_with fail
 refine HL.mono ?_
 rintro e w1 ⟨rfl, rfl⟩
 go_wp2
 go_ret
 exact ⟨rfl, Below.refl _ _⟩
theorem Len_large (B m x E T d : Nat) (D : Dg) (w : World) (h : Large w B m x E T d D) : Calls Tryz.prog 53 #[ptr m] w fun e w' => e = .returned (.int .i64 (D.es.length : Nat)) ∧ Below w.heap.size w w' := by
 have hc := h.blk.cl
 have HP := Packed_no m x E T d _ w h.blk
 have HL := Dk.Len_dict B d x D w h.dc
 generalize D.es.length = k at HL ⊢
 clear h
 go_enter Tryz.func53, Tryz.ntmps53
 go_wp2_with fail
 refine HP.mono ?_
 rintro e w1 ⟨rfl, rfl⟩
 go_wp2_with fail
 refine HL.mono ?_
 rintro e w1 ⟨rfl, rfl⟩
 go_wp2
 go_ret
 exact ⟨rfl, Below.refl _ _⟩
theorem find_no (B m x E T p : Nat) (a : Option Addr) (n c : Nat) (es : List En) (k : ByteArray) (w : World) (h : Small w B m x E T p a n c es) (hk : k ∉ keysOf es) :
  Calls Tryz.prog 54 #[ptr m, .string k] w fun e w' => e = .returned (.int .i64 (-1)) ∧ Below w.heap.size w w' := by
 have hc := h.blk.cs
 have HF := Find_any B p a n c (flat es) k 0 2 w h.pk h.fit (by have := h.max; omega) (by decide) (by decide) (by decide)
 have e1 := fnd_no (es := es) (k := k) (flat es).length 0 (by simpa using hk)
 rw [Nat.mul_zero] at e1
 rw [e1] at HF
 clear h e1
 go_enter Tryz.func54, Tryz.ntmps54
 go_wp2_with fail
 refine HF.mono ?_
 rintro e w1 ⟨hb, rfl⟩
 have HB : Hid (Below w.heap.size w w1) := hb
 clear hb
 go_wp2
 go_ret
 exact ⟨rfl, HB.out⟩
theorem find_yes (B m x E T p : Nat) (a : Option Addr) (n c : Nat) (es l r : List En) (k u : ByteArray) (w : World) (h : Small w B m x E T p a n c es) (he : es = l ++ (k, u) :: r) :
  Calls Tryz.prog 54 #[ptr m, .string k] w fun e w' => e = .returned (.int .i64 (2 * l.length : Nat)) ∧ Below w.heap.size w w' := by
 have hc := h.blk.cs
 have HF := Find_any B p a n c (flat es) k 0 2 w h.pk h.fit (by have := h.max; omega) (by decide) (by decide) (by decide)
 have hn := h.nod
 have e1 := fnd_yes he (by rw [he] at hn; exact (Dk.not_of_nodup hn).1) (flat es).length 0 (Nat.zero_le _) (by rw [flat_len, he, List.length_append, List.length_cons]; omega)
 rw [Nat.mul_zero] at e1
 rw [e1] at HF
 generalize 2 * l.length = q at HF ⊢
 clear h e1 hn
 go_enter Tryz.func54, Tryz.ntmps54
 go_wp2_with fail
 refine HF.mono ?_
 rintro e w1 ⟨hb, rfl⟩
 have HB : Hid (Below w.heap.size w w1) := hb
 clear hb
 go_wp2
 go_ret
 exact ⟨rfl, HB.out⟩
theorem Small.np {w : World} {B m x E T p : Nat} {a : Option Addr} {n c : Nat} {es : List En} (h : Small w B m x E T p a n c es) : m ≠ p := by
 rintro rfl
 have h1 := h.blk.blk
 rw [h.pk.blk] at h1
 simp at h1
theorem Small.nr {w : World} {B m x E T p : Nat} {a : Option Addr} {n c : Nat} {es : List En} (h : Small w B m x E T p a n c es) : some m ≠ a.map (·.block) := by
 intro hk
 obtain ⟨-, -, cur, h3⟩ := Dk.OwnR.lt (h.pk.own : Dk.OwnR w B 5 1 a n c _) hk.symm
 have h1 := h.blk.blk
 rw [h3] at h1
 simp at h1
def SmallTo (w w' : World) (B m x E T p : Nat) (a : Option Addr) (es : List En) : Prop := Moves w w' p a ∧ ∃ a' n' c', Small w' B m x E T p a' n' c' es ∧ Went w a a'
theorem Small.to {w w' : World} {B m x E T p : Nat} {a : Option Addr} {n c : Nat} {es fs : List En} (h : Small w B m x E T p a n c es) {v : Value} {e : Ending} (ht : Turns w B p a (flat fs) v e w') (hl : fs.length ≤ E) (hs : Sz T fs) (hn : (keysOf fs).Nodup) : SmallTo w w' B m x E T p a fs := by
 obtain ⟨-, hm, a', n', c', hp, hw⟩ := ht
 exact ⟨hm, a', n', c', ⟨h.blk.kept (hm.block m h.blk.lt h.np h.nr), hp, h.low, hl, hs, hn, h.hE, h.hT⟩, hw⟩
theorem SmallTo.after {w w1 w2 : World} {B m x E T p : Nat} {a : Option Addr} {es : List En} (hb : Below w.heap.size w w1) (h : SmallTo w1 w2 B m x E T p a es) : SmallTo w w2 B m x E T p a es := by
 obtain ⟨hm, a', n', c', hp, hw⟩ := h
 exact ⟨Moves.after hb hm, a', n', c', hp, hw.after hb⟩
theorem flat_set (l r : List En) (k u v : ByteArray) : (flat (l ++ (k, u) :: r)).set (2 * l.length + 1) v = flat (l ++ (k, v) :: r) := by
 rw [flat_append, flat_append, flat_cons, flat_cons, List.set_append, if_neg (by rw [flat_len]; omega), flat_len, show 2 * l.length + 1 - 2 * l.length = 1 by omega]
 rfl
theorem keys_set {l r : List En} {k u v : ByteArray} : keysOf (l ++ (k, v) :: r) = keysOf (l ++ (k, u) :: r) := by simp [keysOf]
set_option maxRecDepth 100000 in
set_option maxHeartbeats 4000000 in
theorem setSmall_old (B m x E T p : Nat) (a : Option Addr) (n c : Nat) (l r : List En) (k u v : ByteArray) (w : World) (h : Small w B m x E T p a n c (l ++ (k, u) :: r)) (hv : v.size ≤ T) :
  Calls Tryz.prog 55 #[ptr m, .int .i64 (2 * l.length : Nat), .string k, .string v] w fun e w' => e = .returned (.tuple #[]) ∧ SmallTo w w' B m x E T p a (l ++ (k, v) :: r) := by
 have hsz : Sz T (l ++ (k, v) :: r) := by
  intro e he
  have h0 := h.sz
  simp only [List.mem_append, List.mem_cons] at he
  rcases he with h1 | rfl | h1
  ·exact h0 e (by simp [h1])
  ·exact ⟨(h0 (k, u) (by simp)).1, hv⟩
  ·exact h0 e (by simp [h1])
 have hle : (l ++ (k, v) :: r).length ≤ E := by have := h.le; simpa using this
 have hnd : (keysOf (l ++ (k, v) :: r)).Nodup := by rw [keys_set (u := u)]; exact h.nod
 have hlen : (flat (l ++ (k, u) :: r)).length = 2 * (l.length + (r.length + 1)) := by rw [flat_len, List.length_append, List.length_cons]
 have hl2 : l.length ≤ 512 := by have h1 := h.le; have := h.hE; rw [List.length_append] at h1; omega
 have hT := h.hT
 have hE := h.hE
 have HS := Set_ok B p a n c (flat (l ++ (k, u) :: r)) ((2 * l.length + 1 : Nat) : Int) (2 * l.length + 1) v w h.pk h.fit (by have := h.max; omega) (by omega) (by unfold plc; rw [if_pos (by omega), if_pos (by rw [hlen]; omega)]; rfl) (by omega) (by
  rw [flat_set]
  have := pack_len62 (flat (l ++ (k, v) :: r)) (flat_size (hsz.mono hT))
  rw [flat_len] at this
  omega)
 rw [flat_set] at HS
 have HTo : Hid (∀ {e : Ending} {w' : World}, Turns w B p a (flat (l ++ (k, v) :: r)) (.int .i64 0) e w' → SmallTo w w' B m x E T p a (l ++ (k, v) :: r)) := fun ht => h.to ht hle hsz hnd
 have hc := h.blk.cs
 generalize l.length = q at *
 clear h hsz hle hnd hlen
 go_enter Tryz.func55, Tryz.ntmps55
 go_wp2_with fail
 refine HS.mono ?_
 rintro e w1 ht
 have HR : Hid (SmallTo w w1 B m x E T p a (l ++ (k, v) :: r)) := HTo.out ht
 obtain ⟨rfl, -⟩ := ht
 go_wp2
 go_end0
 exact ⟨rfl, HR.out⟩
set_option maxRecDepth 100000 in
set_option maxHeartbeats 4000000 in
theorem setSmall_new (B m x E T p : Nat) (a : Option Addr) (n c : Nat) (es : List En) (k v : ByteArray) (w : World) (h : Small w B m x E T p a n c es) (hk : k.size ≤ T) (hv : v.size ≤ T) (hl : es.length < E) (hno : k ∉ keysOf es) :
  Calls Tryz.prog 55 #[ptr m, .int .i64 (-1), .string k, .string v] w fun e w' => e = .returned (.tuple #[]) ∧ SmallTo w w' B m x E T p a (es ++ [(k, v)]) := by
 have hsz : Sz T (es ++ [(k, v)]) := by
  intro e he
  rcases List.mem_append.1 he with h1 | h1
  ·exact h.sz e h1
  ·simp only [List.mem_singleton] at h1; subst h1; exact ⟨hk, hv⟩
 have hle : (es ++ [(k, v)]).length ≤ E := by simp; omega
 have hnd : (keysOf (es ++ [(k, v)])).Nodup := by
  rw [Dk.keysOf_append, List.nodup_append]
  refine ⟨h.nod, by simp [keysOf], ?_⟩
  intro s hs t ht e
  subst e
  simp only [keysOf, List.map_cons, List.map_nil, List.mem_singleton] at ht
  exact hno (ht ▸ hs)
 have hT := h.hT
 have hE := h.hE
 obtain ⟨wa, hwa⟩ : ∃ wa, wa = w.drew.alloc (.cells #[.string k, .string v] 9) := ⟨_, rfl⟩
 have hbd : Below w.heap.size w w.drew := below_drewN w 1
 have hba : Below w.heap.size w wa := by rw [hwa]; exact hbd.trans (alloc_below w.drew _)
 have hfit : Fit [k, v] := by
  intro s hs
  simp only [List.mem_cons, List.not_mem_nil, or_false] at hs
  rcases hs with rfl | rfl <;> omega
 have hpk : (pack [k, v]).length ≤ 124 := pack_len62 [k, v] (by
  intro s hs
  simp only [List.mem_cons, List.not_mem_nil, or_false] at hs
  rcases hs with rfl | rfl <;> omega)
 have HI := Insert_ok B p a n c (flat es) (flat es).length (some ⟨w.drew.heap.size, 0, none⟩) 2 2 [k, v] wa (h.pk.keep hba) h.fit (by have := h.max; omega) (Nat.le_refl _) (by rw [hwa]; exact RdS.made w.drew [k, v] 2 rfl (by decide) _ rfl) hfit (by decide) (by have := h.n; omega)
 rw [List.take_length, List.drop_length, List.append_nil, show flat es ++ [k, v] = flat (es ++ [(k, v)]) by rw [flat_append]; rfl] at HI
 have HTo : Hid (∀ {e : Ending} {w' : World}, Turns wa B p a (flat (es ++ [(k, v)])) (.int .i64 0) e w' → SmallTo w w' B m x E T p a (es ++ [(k, v)]) ∧ w'.cell? ⟨m, 3, none⟩ = some (ptr p)) := fun ht => by
  have h1 := (h.keep hba).to ht hle hsz hnd
  have h3 := h1.2
  obtain ⟨_, _, _, h2, _⟩ := h3
  exact ⟨h1.after hba, h2.blk.cs⟩
 have HLd := Len_any B p a n c (flat es) w.drew (h.pk.keep hbd)
 have HLa := Len_any B p a n c (flat es) wa (h.pk.keep hba)
 have HSd : Hid (w.drew.cell? ⟨m, 3, none⟩ = some (ptr p)) := (h.blk.keep hbd).cs
 have HSa : Hid (wa.cell? ⟨m, 3, none⟩ = some (ptr p)) := (h.blk.keep hba).cs
 generalize (flat es).length = q at HI HLd HLa
 subst hwa
 clear h hsz hle hnd hfit hpk hbd hba
 go_enter Tryz.func55, Tryz.ntmps55
 go_wp2_with fail
 go_region_held3 (fun w' => w'.cell? ⟨m, 3, none⟩ = some (ptr p)) (first | exact HSd.out | exact HSa.out | exact HSz.out) (first
  | (go_at_call 62; refine HLd.mono ?_; rintro e wx ⟨rfl, rfl⟩)
  | (go_at_call 62; refine HLa.mono ?_; rintro e wx ⟨rfl, rfl⟩)
  | (go_at_call 61; refine HI.mono ?_; rintro e wz ht; have HR : Hid (SmallTo w wz B m x E T p a (es ++ [(k, v)])) := (HTo.out ht).1; have HSz : Hid (wz.cell? ⟨m, 3, none⟩ = some (ptr p)) := (HTo.out ht).2; obtain ⟨rfl, -⟩ := ht))
 all_goals
  go_wp2
  refine bodyPost_ret (results_none rfl _ _ _) rfl ?_
  exact ⟨rfl, HR.out⟩
end Go.Proofs.YtikimcbalkhooaaGreat
namespace Go.Proofs.YtikimcbalkhooaaGreat
open Go.RowKit Go.PlainAid
open Dk (En Stay hasK putE getE keysOf Dct Dg dtag ecells)
abbrev OwnQ (w : World) (B : Nat) (a : Option Addr) (n cap : Nat) (es : List En) : Prop := Dk.OwnR w B 62 2 a n cap (ecells es)
theorem Tryz.infoQ : (Tryz.prog.info? 62).map (fun i => (i.zero, i.size, i.bytes)) = some (some (.agg #[.string ⟨#[]⟩, .string ⟨#[]⟩]), 2, 32) := by kernel_rfl
theorem eltQ : Dk.Elt 22 62 2 32 := Dk.elt_of Tryz.underlying22 Tryz.infoQ rfl (by decide)
theorem OwnQ.len {w : World} {B : Nat} {a : Option Addr} {n cap : Nat} {es : List En} (h : OwnQ w B a n cap es) : es.length = n := by have := Dk.OwnR.len h; rw [Dk.ecells_len] at this; omega
theorem OwnQ.cell {w : World} {B : Nat} {a : Option Addr} {n cap : Nat} {es : List En} (h : OwnQ w B a n cap es) {j : Nat} (hj : j < n) : ∃ g, a = some ⟨g, 0, none⟩ ∧ w.cell? ⟨g, j * 2, none⟩ = some (.string (es.getD j (⟨#[]⟩, ⟨#[]⟩)).1) ∧ w.cell? ⟨g, j * 2 + 1, none⟩ = some (.string (es.getD j (⟨#[]⟩, ⟨#[]⟩)).2) := by
 obtain ⟨g, h1, h2⟩ := Dk.OwnR.at h (by omega)
 have := OwnQ.len h
 have := Dk.ecells_get es j (by omega)
 exact ⟨g, h1, h2 _ _ this.1, h2 _ _ this.2⟩
theorem append_q {w : World} {ops : Array Oper} {rest : List Oper} {o : Oper} {ac : Act} {Q : Exit → Act → World → Prop} (hgd : o.guard = none) (s x : Operand) (ho : o.op = .call { callee := .builtin .append, args := #[s, x], argTypes := #[22, 22] })
  (B : Nat) {a : Option Addr} {n cap : Nat} {ls : List En} (hs : ac.eval s = .slice a n cap) (hown : OwnQ w B a n cap ls) {g : Nat} {k : ByteArray} {v : ByteArray} (hx : ac.eval x = .slice (some ⟨g, 0, none⟩) 1 1) (hr : w.cell? ⟨g, 0, none⟩ = some (.string k)) (hr2 : w.cell? ⟨g, 1, none⟩ = some (.string v)) (hb : n + 1 ≤ 1000001) (hB : B ≤ w.heap.size)
  (h : ∀ a2 n2 c2 w2, n2 = n + 1 → Hid (OwnQ w2 B a2 n2 c2 (ls ++ [(k, v)])) → Hid (Below B w w2) → wpList Tryz.prog ops Q rest (ac.put o.dst (.slice a2 n2 c2)) w2) : wpList Tryz.prog ops Q (o :: rest) ac w := by
 refine Dk.append_r hgd s x ho eltQ B hs hown [.string k, .string v] hx rfl ?_ (by simp [Value.oneCell']) (by decide) (by omega) (by unfold maxLen; omega) hB ?_
 ·intro j u hu
  match j with
  | 0 => rw [add_flat, hr]; exact hu
  | 1 => rw [add_flat, Nat.zero_add, hr2]; exact hu
  | j + 2 => simp at hu
 ·intro a2 n2 c2 w2 e h2 h3 _
  rw [show ecells ls ++ [.string k, .string v] = ecells (ls ++ [(k, v)]) by rw [Dk.ecells_append]; rfl] at h2
  exact h a2 n2 c2 w2 e h2 (Dk.OwnR.below hown h3.out hB)
set_option maxRecDepth 100000 in
set_option maxHeartbeats 4000000 in
theorem pairsOf_any (B m x E T d : Nat) (D : Dg) (sa : Option Addr) (sn sc : Nat) (ks : List ByteArray) (w : World) (h : Large w B m x E T d D) (hO : OwnS w B sa sn sc ks) (hks : ∀ k ∈ ks, k.size ≤ 4096) (hn : sn ≤ 1000000) :
  Calls Tryz.prog 74 #[ptr m, .slice sa sn sc] w fun e w' => Below w.heap.size w w' ∧ ∃ a n c, e = .returned (.slice a n c) ∧ OwnQ w' w.heap.size a n c (ks.map fun k => (k, getE D.es k)) := by
 have HL : Hid (Large w B m x E T d D) := h
 have HO : Hid (OwnS w B sa sn sc ks) := hO
 have HK : Hid (∀ k ∈ ks, k.size ≤ 4096) := hks
 have HN : Hid (ks.length = sn) := hO.len
 clear h hO hks
 go_enter Tryz.func74, Tryz.ntmps74
 go_wp2
 go_loopg [5, 7, 8, 9, 12] sn (fun g qv fv vv ov iv wr => ∃ (i : Nat) (a : Option Addr) (n c : Nat), i + g = sn ∧ iv = .int .i64 i ∧ qv = .slice a n c ∧ n = i ∧ Hid (OwnQ wr w.heap.size a n c ((ks.take i).map fun k => (k, getE D.es k))) ∧ Hid (Below w.heap.size w wr))
 case atStart => exact ⟨0, none, 0, 0, by omega, rfl, rfl, rfl, Dk.OwnR.nil _ _ _ _, Below.refl _ _⟩
 case round =>
  obtain ⟨i, a, n, c, hi, rfl, rfl, rfl, HQ, HB⟩ := hrel
  by_cases h8 : (n : Int) < sn
  ·have hil : n < sn := by omega
   obtain ⟨b, off, rfl, hcell⟩ := (HO.out.keep HB.out).rd.cell n hil
   obtain ⟨k, hk⟩ : ∃ k, ks.getD n ByteArray.empty = k := ⟨_, rfl⟩
   rw [hk] at hcell
   have hc := (HL.out.blk.keep HB.out).cl
   have HT : Hid (ks.take (n + 1) = ks.take n ++ [k]) := by
    have := take_snocB ks n (by have := HN.out; omega)
    rw [hk] at this
    exact this
   have HG := Dk.GetD B d x D k wr (HL.out.dc.keep HB.out) (by
    have h1 : k ∈ ks := by rw [← hk, List.getD_eq_getElem?_getD, List.getElem?_eq_getElem (by have := HN.out; omega)]; exact List.getElem_mem _
    have := HK.out k h1
    unfold maxLen; omega)
   obtain ⟨u, hu⟩ : ∃ u, getE D.es k = u := ⟨_, rfl⟩
   rw [hu] at HG
   have HM : Hid ((ks.take (n + 1)).map (fun k => (k, getE D.es k)) = (ks.take n).map (fun k => (k, getE D.es k)) ++ [(k, u)]) := by
    show _ = _
    rw [HT.out, List.map_append, ← hu]; rfl
   clear hk hu HT
   go_wp2_with fail
   refine HG.mono ?_
   rintro e w1 ⟨rfl, hb⟩
   have HB1 := step_below HB hb
   have HQ1 : Hid (OwnQ w1 w.heap.size a n c ((ks.take n).map fun k => (k, getE D.es k))) := HQ.out.keep hb
   have hsz := HB1.out.size
   clear hb HG HQ
   go_wp2_with (at_builtin; refine append_q rfl (.tmp 25) (.tmp 29) rfl w.heap.size rfl (HQ1.out.keep (alloc_below w1 _)) rfl (by simp; rfl) (by simp; rfl) (by omega) (Nat.le_trans hsz (alloc_below w1 _).size) ?_; intro a3 n3 c3 w3 hn3 HO3 HB3)
   have HB4 : Hid (Below w.heap.size w w3) := (HB1.out.trans ((alloc_below w1 _).mono hsz)).trans HB3.out
   go_roundg (gk - 1)
   case measure => omega
   case rel => subst hn3; exact ⟨n + 1, _, _, _, by omega, rfl, rfl, rfl, by rw [HM.out]; exact HO3, HB4⟩
  ·have hnn : n = sn := by omega
   subst hnn
   have HE : Hid (ks.take n = ks) := List.take_of_length_le (by have := HN.out; omega)
   go_wp2
   go_ret
   exact ⟨HB.out, _, _, _, rfl, by rw [HE.out] at HQ; exact HQ.out⟩
theorem map_getE {es : List En} (hn : (keysOf es).Nodup) : (keysOf es).map (fun k => (k, getE es k)) = es := by
 rw [keysOf, List.map_map]
 conv => rhs; rw [← List.map_id es]
 refine List.map_congr_left fun e he => ?_
 show (e.1, getE es e.1) = e
 rw [Dk.getE_mem hn (k := e.1) (v := e.2) he]
set_option maxRecDepth 100000 in
set_option maxHeartbeats 4000000 in
theorem All_large (B m x E T d : Nat) (D : Dg) (w : World) (h : Large w B m x E T d D) (hB : B ≤ w.heap.size) :
  Calls Tryz.prog 35 #[ptr m] w fun e w' => Below w.heap.size w w' ∧ ∃ a n c es, e = .returned (.slice a n c) ∧ OwnQ w' w.heap.size a n c es ∧ es.Perm D.es := by
 have hc := h.blk.cl
 have HP := Packed_no m x E T d _ w h.blk
 have HK := Dk.Keys_dict B d x D w h.dc
 have HL : Hid (Large w B m x E T d D) := h
 have HPm : Hid ((keysOf (Dk.esL (Dk.ordU D.L (2 ^ D.g)))).Perm (keysOf D.es)) := by
  show List.Perm _ _
  exact (h.dc.ord_perm.flatMap_right Dk.Lf.es).map Prod.fst
 generalize keysOf (Dk.esL (Dk.ordU D.L (2 ^ D.g))) = ks at HK HPm
 clear h
 go_enter Tryz.func35, Tryz.ntmps35
 go_wp2_with fail
 refine HP.mono ?_
 rintro e w1 ⟨rfl, rfl⟩
 go_wp2_with fail
 refine HK.mono ?_
 rintro e w2 ⟨hb, a, n, c, rfl, hO⟩
 have hl2 : n ≤ 1000000 := by
  have h1 : ks.length = n := Dk.OwnS.len hO
  have h2 := HPm.out.length_eq
  have h3 := HL.out.dc.le
  rw [keysOf, List.length_map] at h2
  omega
 have HPO := pairsOf_any B m x E T d D a n c ks w2 (HL.out.keep hb) (Dk.OwnR.low hO hB) (fun k hk => by
  obtain ⟨e, he, rfl⟩ := List.mem_map.1 (HPm.out.mem_iff.1 hk)
  exact (HL.out.sz e he).1) hl2
 have HPe : Hid ((ks.map fun k => (k, getE D.es k)).Perm D.es) := by
  have h1 := HPm.out.map (fun k => (k, getE D.es k))
  rw [map_getE HL.out.dc.nodk] at h1
  exact h1
 have HB : Hid (Below w1.heap.size w1 w2) := hb
 generalize (ks.map fun k => (k, getE D.es k)) = fs at HPO HPe
 clear hb hO
 go_wp2_with fail
 refine HPO.mono ?_
 rintro e w3 ⟨hb, a3, n3, c3, rfl, hO3⟩
 have HB3 := step_below HB hb
 have HO3 : Hid (OwnQ w3 w1.heap.size a3 n3 c3 fs) := Dk.OwnR.low hO3 HB.out.size
 clear hb hO3
 go_wp2
 go_ret
 exact ⟨HB3.out, _, _, _, fs, rfl, HO3.out, HPe.out⟩
theorem step_append_q {w : World} {ops : Array Oper} {o : Oper} {ac : Act} {K : Act → World → Prop} {Q : Exit → Act → World → Prop} {E : Prop} (hgd : o.guard = none) (s x : Operand) (ho : o.op = .call { callee := .builtin .append, args := #[s, x], argTypes := #[22, 22] })
  (B : Nat) {a : Option Addr} {n cap : Nat} {ls : List En} (hs : ac.eval s = .slice a n cap) (hown : OwnQ w B a n cap ls) {g : Nat} {k : ByteArray} {v : ByteArray} (hx : ac.eval x = .slice (some ⟨g, 0, none⟩) 1 1) (hr : w.cell? ⟨g, 0, none⟩ = some (.string k)) (hr2 : w.cell? ⟨g, 1, none⟩ = some (.string v)) (hb : n + 1 ≤ 1000001) (hB : B ≤ w.heap.size)
  (h : ∀ a2 n2 c2 w2, n2 = n + 1 → Hid (OwnQ w2 B a2 n2 c2 (ls ++ [(k, v)])) → Hid (Below B w w2) → K (ac.put o.dst (.slice a2 n2 c2)) w2) : if Region.wanted o (yielded ops ac.tmps) = true then Oper.wp Tryz.prog o ac w K Q else E := by
 refine Dk.step_append_r hgd s x ho eltQ B hs hown [.string k, .string v] hx rfl ?_ (by simp [Value.oneCell']) (by decide) (by omega) (by unfold maxLen; omega) hB ?_
 ·intro j u hu
  match j with
  | 0 => rw [add_flat, hr]; exact hu
  | 1 => rw [add_flat, Nat.zero_add, hr2]; exact hu
  | j + 2 => simp at hu
 ·intro a2 n2 c2 w2 e h2 h3 _
  rw [show ecells ls ++ [.string k, .string v] = ecells (ls ++ [(k, v)]) by rw [Dk.ecells_append]; rfl] at h2
  exact h a2 n2 c2 w2 e h2 (Dk.OwnR.below hown h3.out hB)
theorem flat_get (es : List En) (i : Nat) (hi : i < es.length) : (flat es).getD (2 * i) ByteArray.empty = (es.getD i (⟨#[]⟩, ⟨#[]⟩)).1 ∧ (flat es).getD (2 * i + 1) ByteArray.empty = (es.getD i (⟨#[]⟩, ⟨#[]⟩)).2 := by
 induction es generalizing i with
 | nil => simp at hi
 | cons e es ih =>
  cases i with
  | zero => exact ⟨rfl, rfl⟩
  | succ i =>
   have := ih i (by simpa using hi)
   rw [flat_cons, show 2 * (i + 1) = 2 * i + 1 + 1 by omega, List.getD_cons_succ, List.getD_cons_succ, List.getD_cons_succ, List.getD_cons_succ, List.getD_cons_succ]
   exact this
set_option maxRecDepth 100000 in
set_option maxHeartbeats 4000000 in
theorem All_small (B m x E T p : Nat) (a : Option Addr) (n c : Nat) (es : List En) (w : World) (h : Small w B m x E T p a n c es) :
  Calls Tryz.prog 35 #[ptr m] w fun e w' => Below w.heap.size w w' ∧ ∃ a n c, e = .returned (.slice a n c) ∧ OwnQ w' w.heap.size a n c es := by
 have hc := h.blk.cs
 have HP := Packed_yes m x E T _ w h.blk
 have HA := All_any B p a n c (flat es) w h.pk h.fit (by have := h.max; omega)
 obtain ⟨q, hq⟩ : ∃ q, es.length = q := ⟨_, rfl⟩
 have HQ : Hid (es.length = q) := hq
 have hq5 : q ≤ 512 := by have := h.le; have := h.hE; omega
 clear h hq
 go_enter Tryz.func35, Tryz.ntmps35
 go_wp2_with fail
 refine HP.mono ?_
 rintro e w0 ⟨rfl, rfl⟩
 go_wp2_with fail
 refine HA.mono ?_
 rintro e w1 ⟨hb, sa, sn, sc, rfl, hO⟩
 have HSN : Hid (sn = 2 * q) := by
  show _ = _
  have h1 := hO.len
  rw [flat_len] at h1
  have := HQ.out
  omega
 have HO : Hid (OwnS w1 w0.heap.size sa sn sc (flat es)) := hO
 have HB1 : Hid (Below w0.heap.size w0 w1) := hb
 clear hb hO
 go_wp2
 go_loopg [4, 5] q (fun g qv iv wr => ∃ (i j : Nat) (a : Option Addr) (n c : Nat), i + g = q ∧ iv = .int .i64 j ∧ Hid (j = 2 * i) ∧ qv = .slice a n c ∧ n = i ∧ Hid (OwnQ wr w1.heap.size a n c (es.take i)) ∧ Hid (Below w1.heap.size w1 wr))
 case atStart => exact ⟨0, 0, none, 0, 0, by omega, rfl, (rfl : 0 = 2 * 0), rfl, rfl, Dk.OwnR.nil _ _ _ _, Below.refl _ _⟩
 case round =>
  obtain ⟨i, j, a, n, c, hi, rfl, HJ, rfl, rfl, HQr, HB⟩ := hrel
  by_cases h8 : (j : Int) < (sn : Int)
  ·have hz1 : (j : Int) + 1 < (sn : Int) := by have := HJ.out; have := HSN.out; omega
   have hj3 : j ≤ 1024 := by have := HJ.out; omega
   have hnq : n < q := by have := HJ.out; have := HSN.out; omega
   obtain ⟨b, off, rfl, hc1⟩ := ((HO.out.keep HB.out).rd.cell j (by omega))
   obtain ⟨b', off', e1, hc2⟩ := ((HO.out.keep HB.out).rd.cell (j + 1) (by omega))
   cases e1
   have hg := flat_get es n (by have := HQ.out; omega)
   rw [← HJ.out] at hg
   rw [hg.1] at hc1
   rw [hg.2] at hc2
   have HT : Hid (es.take (n + 1) = es.take n ++ [es.getD n (⟨#[]⟩, ⟨#[]⟩)]) := Dk.take_snoc es _ n (by have := HQ.out; omega)
   generalize es.getD n (⟨#[]⟩, ⟨#[]⟩) = ev at hc1 hc2 HT
   obtain ⟨k, v⟩ := ev
   clear hg
   have hd1 : wr.drew.cell? ⟨b, off + j, none⟩ = some (.string k) := hc1
   have hd2 : wr.drew.cell? ⟨b, off + (j + 1), none⟩ = some (.string v) := hc2
   have HBd : Hid (Below wr.heap.size wr (wr.drew.alloc (.cells #[.string k, .string v] 62))) := (below_drewN wr 1).trans (alloc_below wr.drew _)
   have HQd : Hid (OwnQ (wr.drew.alloc (.cells #[.string k, .string v] 62)) w1.heap.size a n c (es.take n)) := HQr.out.keep HBd.out
   have HSz : Hid (w1.heap.size ≤ (wr.drew.alloc (.cells #[.string k, .string v] 62)).heap.size) := Nat.le_trans HB.out.size HBd.out.size
   have HBe : Hid (∀ w3, Below w1.heap.size (wr.drew.alloc (.cells #[.string k, .string v] 62)) w3 → Below w1.heap.size w1 w3) := fun w3 h3 => (HB.out.trans (HBd.out.mono HB.out.size)).trans h3
   have hn5 : n + 1 ≤ 1000001 := by omega
   obtain ⟨j1, hj1⟩ : ∃ j1, j + 1 = j1 := ⟨_, rfl⟩
   rw [hj1] at hc2 hd2
   have hw1 : IntKind.i64.wrap ((j : Int) + 1) = (j1 : Int) := by rw [IntKind.wrap_i64]; omega
   have hz2 : (j1 : Int) < (sn : Int) := by omega
   clear hj1 hz1
   go_wp2_with fail
   go_region_law (refine step_append_q rfl (.tmp 27) (.tmp 38) rfl w1.heap.size (by simp [Act.eval]) HQd.out (by simp [Act.eval]; rfl) (by simp; rfl) (by simp; rfl) hn5 HSz.out ?_; intro a3 n3 c3 w3 hn3 HO3 HB3)
   all_goals
    go_wp2
    go_roundg (gk - 1)
    case measure => omega
    case rel => subst hn3; exact ⟨n + 1, j + 2, _, _, _, by omega, by go_num, (by have := HJ.out; show _ = _; omega), rfl, rfl, by rw [HT.out]; exact HO3, HBe.out _ HB3.out⟩
  ·have hnn : n = q := by have := HJ.out; have := HSN.out; omega
   subst hnn
   have HE : Hid (es.take n = es) := List.take_of_length_le (by have := HQ.out; omega)
   go_wp2
   go_ret
   exact ⟨HB1.out.trans (HB.out.mono HB1.out.size), _, _, _, rfl, by rw [HE.out] at HQr; exact Dk.OwnR.low HQr.out HB1.out.size⟩
set_option maxRecDepth 100000 in
set_option maxHeartbeats 4000000 in
theorem dictOf_any (B x : Nat) (a : Option Addr) (n c : Nat) (es : List En) (w : World) (hx : x < 18446744073709551616) (hO : OwnQ w B a n c es) (hs : Sz 4096 es) (hn : (keysOf es).Nodup) (hl : n < 1000000) :
  Calls Tryz.prog 85 #[.int .u64 x, .slice a n c] w fun e w' => Below w.heap.size w w' ∧ ∃ d D, e = .returned (ptr d) ∧ Dct w' w.heap.size d x D ∧ D.es.Perm es := by
 have HN := Dk.New_dict x w hx
 have HO : Hid (OwnQ w B a n c es) := hO
 have HS : Hid (Sz 4096 es) := hs
 have HK : Hid ((keysOf es).Nodup) := hn
 have HL : Hid (es.length = n) := OwnQ.len hO
 clear hO hs hn
 go_enter Tryz.func85, Tryz.ntmps85
 go_wp2_with fail
 refine HN.mono ?_
 rintro e w1 ⟨hb, d, D0, rfl, h1, -, -, h4⟩
 have HD0 : Hid (Dct w1 w.heap.size d x D0) := h1
 have HE0 : Hid (D0.es.Perm (es.take 0)) := by show List.Perm _ _; rw [h4, List.take_zero]
 have HB1 : Hid (Below w.heap.size w w1) := hb
 clear hb h1 h4 HN
 go_wp2
 go_loopg [7, 12] n (fun g pv iv wr => ∃ (i : Nat) (D : Dg), i + g = n ∧ iv = .int .i64 i ∧ Hid (Dct wr w.heap.size d x D) ∧ Hid (D.es.Perm (es.take i)) ∧ Hid (Below w.heap.size w wr))
 case atStart => exact ⟨0, D0, by omega, rfl, HD0, HE0, HB1⟩
 case round =>
  obtain ⟨i, D, hi, rfl, HD, HE, HB⟩ := hrel
  by_cases h8 : (i : Int) < n
  ·have hil : i < es.length := by have := HL.out; omega
   obtain ⟨g, rfl, hc1, hc2⟩ := OwnQ.cell (HO.out.keep HB.out) (j := i) (by omega)
   have HT : Hid (es.take (i + 1) = es.take i ++ [es.getD i (⟨#[]⟩, ⟨#[]⟩)]) := Dk.take_snoc es _ i hil
   have HFR : Hid ((es.getD i (⟨#[]⟩, ⟨#[]⟩)).1 ∉ keysOf (es.take i)) := Dk.fresh_key HK.out hil
   have HSZ : Hid ((es.getD i (⟨#[]⟩, ⟨#[]⟩)).1.size ≤ 4096) := (HS.out _ (by rw [List.getD_eq_getElem?_getD, List.getElem?_eq_getElem hil]; exact List.getElem_mem hil)).1
   generalize es.getD i (⟨#[]⟩, ⟨#[]⟩) = ev at hc1 hc2 HT HFR HSZ
   obtain ⟨k, v⟩ := ev
   have hba : Below wr.heap.size wr (wr.alloc (.cells #[.string k, .string v] 62)) := alloc_below _ _
   have HP := Dk.PutD_new w.heap.size d x D k v (wr.alloc (.cells #[.string k, .string v] 62)) (HD.out.keep hba) (by have := HSZ.out; unfold maxLen; simp only at this; omega) (fun hm => HFR.out ((HE.out.map Prod.fst).mem_iff.1 hm)) (by have := HE.out.length_eq; rw [List.length_take] at this; omega)
   have HBa : Hid (Below w.heap.size w (wr.alloc (.cells #[.string k, .string v] 62))) := HB.out.trans (hba.mono HB.out.size)
   have HDa : Hid (Dct (wr.alloc (.cells #[.string k, .string v] 62)) w.heap.size d x D) := HD.out.keep hba
   clear hba
   go_wp2_with fail
   refine HP.mono ?_
   rintro e w2 ⟨rfl, D', hT, -, hp⟩
   have HD2 : Hid (Dct w2 w.heap.size d x D') := hT.dct
   have HE2 : Hid (D'.es.Perm (es.take (i + 1))) := by
    show List.Perm _ _
    rw [HT.out]
    exact hp.trans (HE.out.append_right _)
   have HB2 : Hid (Below w.heap.size w w2) := HBa.out.trans (hT.below HDa.out)
   clear hT hp
   go_wp2
   go_roundg (gk - 1)
   case measure => omega
   case rel => exact ⟨i + 1, D', by omega, by go_num, HD2, HE2, HB2⟩
  ·have hnn : i = n := by omega
   subst hnn
   have HT : Hid (es.take i = es) := List.take_of_length_le (by have := HL.out; omega)
   go_wp2
   go_ret
   exact ⟨HB.out, d, rfl, D, HD.out, by rw [HT.out] at HE; exact HE.out⟩
def lim (z : Int) (hi : Nat) : Nat := (min (max z 0) hi).toNat
theorem lim_le (z : Int) (hi : Nat) : lim z hi ≤ hi := by unfold lim; omega
set_option maxRecDepth 100000 in
set_option maxHeartbeats 4000000 in
theorem New_hm (x : Nat) (e t : Int) (w : World) :
  Calls Tryz.prog 67 #[.int .u64 x, .agg #[.int .i64 e, .int .i64 t]] w fun en w' => Below w.heap.size w w' ∧ ∃ m p a n c, en = .returned (ptr m) ∧ Small w' w.heap.size m x (lim e 512) (lim t 60) p a n c [] := by
 obtain ⟨E, hE⟩ : ∃ E, lim e 512 = E := ⟨_, rfl⟩
 obtain ⟨T, hT⟩ : ∃ T, lim t 60 = T := ⟨_, rfl⟩
 have HE : Hid (lim e 512 = E) := hE
 have HT : Hid (lim t 60 = T) := hT
 rw [hE, hT]
 clear hE hT
 obtain ⟨wa, hwa⟩ : ∃ wa, wa = w.alloc (.cells #[.int .i64 (E : Nat), .int .i64 (T : Nat)] 28) := ⟨_, rfl⟩
 go_enter Tryz.func67, Tryz.ntmps67
 go_upto_region 1 with fail
 go_cut [4] from 5 to 9 (fun v wx => v = .pointer none ∧ wx = w.alloc (.cells #[.int .i64 (E : Nat), .int .i64 t] 28))
 case first =>
  go_wp2
  all_goals
   go_meet
   have h1 := HE.out
   unfold lim at h1
   refine ⟨rfl, ?_⟩
   first
    | rw [show ((E : Nat) : Int) = 0 by omega]
    | rw [show ((E : Nat) : Int) = 512 by omega]
    | rw [show ((E : Nat) : Int) = e by omega]
 case rest =>
 obtain ⟨rfl, rfl⟩ := hcut
 go_upto_region 2 with fail
 go_cut [4] from 10 to 14 (fun v wx => v = .pointer none ∧ wa = wx)
 case first =>
  go_wp2
  all_goals
   go_meet
   have h1 := HT.out
   unfold lim at h1
   refine ⟨rfl, ?_⟩
   rw [hwa]
   first
    | rw [show ((T : Nat) : Int) = 0 by omega]
    | rw [show ((T : Nat) : Int) = 60 by omega]
    | rw [show ((T : Nat) : Int) = t by omega]
 case rest =>
 obtain ⟨rfl, rfl⟩ := hcut
 have hba : Below w.heap.size w wa := by rw [hwa]; exact alloc_below w _
 have hbd : Below w.heap.size w wa.drew := hba.trans ((below_drewN wa 1).mono hba.size)
 have hsz : w.heap.size < wa.drew.heap.size := by
  show w.heap.size < wa.heap.size
  rw [hwa]
  exact (Array.getElem?_eq_some_iff.1 (heap_alloc_new w _)).1
 have hc1 : wa.drew.cell? ⟨w.heap.size, 0, none⟩ = some (.int .i64 (E : Nat)) := by subst hwa; simp
 have hc2 : wa.drew.cell? ⟨w.heap.size, 1, none⟩ = some (.int .i64 (T : Nat)) := by subst hwa; simp
 have HN := New_any wa.drew
 have HBd : Hid (Below w.heap.size w wa.drew) := hbd
 have HCk : Hid (∀ w2, Below wa.drew.heap.size wa.drew w2 → w2.cell? ⟨w.heap.size, 0, none⟩ = some (.int .i64 (E : Nat)) ∧ w2.cell? ⟨w.heap.size, 1, none⟩ = some (.int .i64 (T : Nat))) := fun w2 hb => ⟨by rw [hb.cell (p := ⟨w.heap.size, 0, none⟩) hsz]; exact hc1, by rw [hb.cell (p := ⟨w.heap.size, 1, none⟩) hsz]; exact hc2⟩
 clear hwa hba hbd hsz
 go_wp2_with fail
 go_region_with (go_at_call 110; refine HN.mono ?_; rintro e1 w2 ⟨hb, p, a, n, c, rfl, hP⟩; obtain ⟨hk1, hk2⟩ := HCk.out w2 hb; have HB2 := step_below HBd hb; have HP2 : Hid (Pk w2 w.heap.size p a n c []) := hP.low' HBd.out.size; clear hb hP)
 all_goals
  have HR : Hid (Small (w2.alloc (.cells #[.int .u64 (x : Nat), .int .i64 (E : Nat), .int .i64 (T : Nat), ptr p, .pointer none] 83)) w.heap.size w2.heap.size x E T p a n c []) :=
   Small.mk (Hb.mk (heap_alloc_new w2 _)) (HP2.out.keep (alloc_below w2 _)) HB2.out.size (Nat.zero_le _) (fun _ h => absurd h List.not_mem_nil) List.nodup_nil (HE.out ▸ lim_le e 512) (HT.out ▸ lim_le t 60)
  go_wp2
  go_ret
  exact ⟨HB2.out.trans ((alloc_below w2 _).mono HB2.out.size), _, p, a, n, c, rfl, HR.out⟩
theorem Leaf.lower {w : World} {B C x : Nat} {f : Dk.Lf} (h : Dk.Leaf w B x f) (hC : C ≤ B) : Dk.Leaf w C x f :=
 ⟨h.blk, Dk.OwnR.low h.row hC, fun t ht => (h.tab t ht).lower hC, Nat.le_trans hC h.low, h.nod, h.key, h.pos⟩
theorem Dct.lower {w : World} {B C d x : Nat} {D : Dg} (h : Dct w B d x D) (hC : C ≤ B) : Dct w C d x D :=
 ⟨h.blk, Dk.OwnR.low h.row hC, fun f hf => Leaf.lower (h.leaf f hf) hC, h.shp, h.dir, h.own, h.one, h.ful, h.nod, Nat.le_trans hC h.low, h.seed, h.le⟩
theorem Small.un {w w1 w2 : World} {B m x E T p d : Nat} {a : Option Addr} {n c : Nat} {es : List En} {D : Dg} (h : Small w B m x E T p a n c es) (hb : Below w.heap.size w w1) (hB : B ≤ w.heap.size) (hD : Dct w1 w.heap.size d x D) (hp : D.es.Perm es) (e2 : w2 = (w1.setCell ⟨m, 4, none⟩ (ptr d)).setCell ⟨m, 3, none⟩ (.pointer none)) :
  Large w2 B m x E T d D ∧ Stay w w2 [m] := by
 have hb1 := h.blk.keep hb
 have hne : m ∉ d :: D.pb :: Dk.fpL D.L := fun hm => by have := (hD.fplt m hm).1; have := h.blk.lt; omega
 have hS : Stay w1 w2 [m] := by
  rw [e2]
  exact Stay.set.trans (M' := [m]) Stay.set (fun i hi => .inl hi)
 refine ⟨⟨by rw [e2]; exact (hb1.setL _).setS _, ?_, h.low, (h.sz.mono (by have := h.hT; omega)).perm hp.symm, h.hE, h.hT⟩, (Stay.of_below hb [m]).trans hS (fun i hi => .inl hi)⟩
 have h1 := hD.stay hS (fun k hk hm => hne (by simp only [List.mem_singleton] at hm; exact hm ▸ hk))
 exact Dct.lower h1 hB
set_option maxRecDepth 100000 in
set_option maxHeartbeats 4000000 in
theorem unpack_any (B m x E T p : Nat) (a : Option Addr) (n c : Nat) (es : List En) (w : World) (hx : x < 18446744073709551616) (h : Small w B m x E T p a n c es) (hB : B ≤ w.heap.size) :
  Calls Tryz.prog 56 #[ptr m] w fun e w' => e = .returned (.tuple #[]) ∧ ∃ d D, Large w' B m x E T d D ∧ D.es.Perm es ∧ Stay w w' [m] ∧ (∀ k ∈ d :: D.pb :: Dk.fpL D.L, w.heap.size ≤ k) := by
 have hbd : Below w.heap.size w w.drew := below_drewN w 1
 have hcd := (h.blk.keep hbd).cx
 have HA := All_small B m x E T p a n c es w.drew (h.keep hbd)
 have HSm : Hid (Small w B m x E T p a n c es) := h
 have HBd : Hid (Below w.heap.size w w.drew) := hbd
 have hn5 : es.length ≤ 512 := by have := h.le; have := h.hE; omega
 clear h hbd
 go_enter Tryz.func56, Tryz.ntmps56
 go_wp2_with fail
 go_cut [2, 9] from 3 to 11 (fun v u wx => ∃ d D w1, v = ptr m ∧ u = ptr d ∧ wx = w1.setCell ⟨m, 4, none⟩ (ptr d) ∧ Hid (Below w.heap.size w w1) ∧ Hid (Dct w1 w.heap.size d x D) ∧ Hid (D.es.Perm es))
 case first =>
  go_region_with (first
   | (go_at_call 35; refine HA.mono ?_; rintro e w2 ⟨hb, a2, n2, c2, rfl, hO2⟩; have HB2 := step_below HBd hb; have HO2 : Hid (OwnQ w2 w.heap.size a2 n2 c2 es) := Dk.OwnR.low hO2 HBd.out.size; have hcx := (HSm.out.keep HB2.out).blk.cx; have hn2 : es.length = n2 := OwnQ.len hO2; clear hb hO2)
   | (go_at_call 85; refine (dictOf_any w.heap.size x a2 n2 c2 es _ hx HO2.out (HSm.out.sz.mono (by have := HSm.out.hT; omega)) HSm.out.nod (by omega)).mono ?_; rintro e w3 ⟨hb, d, D, rfl, hD, hp⟩; have HB3 := step_below HB2 hb; have HD3 : Hid (Dct w3 w.heap.size d x D) := Dct.lower hD HB2.out.size; have HE3 : Hid (D.es.Perm es) := hp; have hcl := (HSm.out.keep HB3.out).blk.cl; have hfz := (HSm.out.keep HB3.out).blk.fz 4; clear hb hD hp))
  all_goals
   go_wp2
   go_meet
   exact ⟨d, D, w3, rfl, rfl, rfl, HB3, HD3, HE3⟩
 case rest =>
 obtain ⟨d, D, w1, rfl, rfl, rfl, HB1, HD1, HE1⟩ := hcut
 have hcs : (w1.setCell ⟨m, 4, none⟩ (ptr d)).cell? ⟨m, 3, none⟩ = some (ptr p) := ((HSm.out.blk.keep HB1.out).setL _).cs
 have hfz := ((HSm.out.blk.keep HB1.out).setL (ptr d)).fz 3
 have HR : Hid (Large ((w1.setCell ⟨m, 4, none⟩ (ptr d)).setCell ⟨m, 3, none⟩ (.pointer none)) B m x E T d D ∧ Stay w ((w1.setCell ⟨m, 4, none⟩ (ptr d)).setCell ⟨m, 3, none⟩ (.pointer none)) [m]) := HSm.out.un HB1.out hB HD1.out HE1.out rfl
 have HF : Hid (∀ k ∈ d :: D.pb :: Dk.fpL D.L, w.heap.size ≤ k) := fun k hk => (HD1.out.fplt k hk).1
 go_wp2
 go_end0
 exact ⟨rfl, d, D, HR.out.1, HE1.out, HR.out.2, HF.out⟩
end Go.Proofs.YtikimcbalkhooaaGreat
namespace Go.Proofs.YtikimcbalkhooaaGreat
open Go.RowKit Go.PlainAid
open Dk (En Stay hasK putE getE keysOf Dct Dg dtag ecells Turn)
theorem Large.turn {w w' : World} {B m x E T d : Nat} {D D' : Dg} (h : Large w B m x E T d D) (hT : Turn w w' B d x D D') (hs : Sz 4096 D'.es) : Large w' B m x E T d D' := by
 have hm : m ∉ d :: D.pb :: Dk.fpL D.L := fun hm => by
  obtain ⟨cs, t, h1, h2⟩ := h.dc.tags m hm
  rw [h.blk.blk] at h1
  simp at h1
  rw [← h1.2] at h2
  revert h2
  decide
 exact ⟨h.blk.kept (hT.stay.block m h.blk.lt hm), hT.dct, h.low, hs, h.hE, h.hT⟩
theorem hasK_len (es : List En) (k v : ByteArray) : (putE es k v).length = es.length + if hasK es k = true then 0 else 1 := by
 unfold putE
 split
 ·rw [List.length_map]; rfl
 ·rw [List.length_append]; rfl
theorem gt_len (es : List En) (k v : ByteArray) : decide (es.length < (putE es k v).length) = !hasK es k := by
 rw [hasK_len]
 cases hasK es k <;> simp
set_option maxRecDepth 100000 in
set_option maxHeartbeats 4000000 in
theorem Set_large (B m x E T d : Nat) (D : Dg) (k v : ByteArray) (w : World) (h : Large w B m x E T d D) (hk : k.size ≤ 4096) (hv : v.size ≤ 4096) (hle : D.es.length < 1000000) :
  Calls Tryz.prog 16 #[ptr m, .string k, .string v] w fun e w' => e = .returned (.tuple #[.bool (!hasK D.es k), .int .i64 0]) ∧ ∃ D', Turn w w' B d x D D' ∧ Large w' B m x E T d D' ∧ D'.es.Perm (putE D.es k v) := by
 obtain ⟨q, hq⟩ : ∃ q, max k.size v.size = q := ⟨_, rfl⟩
 have HQ : Hid (max k.size v.size = q) := hq
 have hz : (q : Int) ≤ 4096 := by omega
 have HP := Packed_no m x E T d _ w h.blk
 have HL := Len_large B m x E T d D w h
 have HLg : Hid (Large w B m x E T d D) := h
 have HG : Hid (decide (D.es.length < (putE D.es k v).length) = !hasK D.es k) := gt_len _ _ _
 have HSz : Hid (k.size ≤ 4096 ∧ v.size ≤ 4096) := ⟨hk, hv⟩
 obtain ⟨bf, hbf⟩ : ∃ bf, D.es.length = bf := ⟨_, rfl⟩
 rw [hbf] at HL HG
 have HBF : Hid (D.es.length = bf) := hbf
 rw [hbf] at hle
 generalize hasK D.es k = t at HG ⊢
 clear hq hbf h
 go_enter Tryz.func16, Tryz.ntmps16
 go_upto_region 1 with fail
 go_cut [8] from 11 to 15 (fun s wx => s = .int .i64 q ∧ w = wx)
 case first =>
  go_wp2
  all_goals
   go_meet
   have := HQ.out
   refine ⟨?_, rfl⟩
   first
    | rw [show (q : Int) = k.size by omega]
    | rw [show (q : Int) = v.size by omega]
 case rest =>
 obtain ⟨rfl, rfl⟩ := hcut
 go_wp2_with fail
 refine HL.mono ?_
 rintro e w1 ⟨rfl, hb⟩
 have HB : Hid (Below w.heap.size w w1) := hb
 have hL1 := HLg.out.keep hb
 have HP1 := Packed_no m x E T d _ w1 hL1.blk
 have hc := hL1.blk.cl
 have HPu := Dk.PutD B d x D k v w1 hL1.dc (by unfold maxLen; omega) (by have := HBF.out; omega)
 have HL1 : Hid (Large w1 B m x E T d D) := hL1
 clear hb hL1
 go_wp2_with fail
 refine HP1.mono ?_
 rintro e w2 ⟨rfl, rfl⟩
 go_wp2_with fail
 refine HPu.mono ?_
 rintro e w3 ⟨rfl, D', hT, hp⟩
 have hL3 := HL1.out.turn hT ((HL1.out.sz.put HSz.out.1 HSz.out.2).perm hp.symm)
 have HLn := Len_large B m x E T d D' w3 hL3
 have HR : Hid (Turn w w3 B d x D D' ∧ Large w3 B m x E T d D' ∧ D'.es.Perm (putE D.es k v)) := ⟨hT.first HB.out, hL3, hp⟩
 rw [hp.length_eq] at HLn
 generalize (putE D.es k v).length = nl at HG HLn
 clear hT hp hL3
 go_wp2_with fail
 refine HLn.mono ?_
 rintro e w4 ⟨rfl, hb⟩
 have HR4 : Hid (Turn w w4 B d x D D' ∧ Large w4 B m x E T d D' ∧ D'.es.Perm (putE D.es k v)) := ⟨HR.out.1.trans (Turn.refl HR.out.2.1.dc hb), HR.out.2.1.keep hb, HR.out.2.2⟩
 have hg := HG.out
 clear hb
 go_wp2
 go_ret2
 exact ⟨by rw [← hg]; rfl, D', HR4.out⟩
set_option maxRecDepth 100000 in
set_option maxHeartbeats 4000000 in
theorem Set_old (B m x E T p : Nat) (a : Option Addr) (n c : Nat) (l r : List En) (k u v : ByteArray) (w : World) (h : Small w B m x E T p a n c (l ++ (k, u) :: r)) (hv : v.size ≤ T) :
  Calls Tryz.prog 16 #[ptr m, .string k, .string v] w fun e w' => e = .returned (.tuple #[.bool false, .int .i64 0]) ∧ SmallTo w w' B m x E T p a (l ++ (k, v) :: r) := by
 have hk : k.size ≤ T := (h.sz (k, u) (by simp)).1
 obtain ⟨q, hq⟩ : ∃ q, max k.size v.size = q := ⟨_, rfl⟩
 have HQ : Hid (max k.size v.size = q) := hq
 have hz : (q : Int) ≤ 4096 := by have := h.hT; omega
 have hqT : (q : Int) ≤ T := by omega
 have HL := Len_small B m x E T p a n c _ w h
 have HSm : Hid (Small w B m x E T p a n c (l ++ (k, u) :: r)) := h
 have hT6 := h.hT
 have hE5 := h.hE
 have hl2 : l.length ≤ 512 := by have h1 := h.le; rw [List.length_append] at h1; omega
 have HHv : Hid (v.size ≤ T) := hv
 generalize (l ++ (k, u) :: r).length = bf at HL
 clear hq h hv hk
 go_enter Tryz.func16, Tryz.ntmps16
 go_upto_region 1 with fail
 go_cut [8] from 11 to 15 (fun s wx => s = .int .i64 q ∧ w = wx)
 case first =>
  go_wp2
  all_goals
   go_meet
   have := HQ.out
   refine ⟨?_, rfl⟩
   first
    | rw [show (q : Int) = k.size by omega]
    | rw [show (q : Int) = v.size by omega]
 case rest =>
 obtain ⟨rfl, rfl⟩ := hcut
 go_wp2_with fail
 refine HL.mono ?_
 rintro e w1 ⟨rfl, hb⟩
 have hS1 := HSm.out.keep hb
 have HB : Hid (Below w.heap.size w w1) := hb
 have HP1 := Packed_yes m x E T _ w1 hS1.blk
 have HF := find_yes B m x E T p a n c _ l r k u w1 hS1 rfl
 have HSe := fun w' (hb' : Below w.heap.size w w') => setSmall_old B m x E T p a n c l r k u v w' (HSm.out.keep hb') HHv.out
 obtain ⟨at_, hat⟩ : ∃ at_, 2 * l.length = at_ := ⟨_, rfl⟩
 rw [hat] at HF HSe
 have hat2 : at_ ≤ 1024 := by omega
 clear hat hl2
 clear hb hS1
 go_wp2_with fail
 refine HP1.mono ?_
 rintro e w2 ⟨rfl, rfl⟩
 go_wp2_with fail
 refine HF.mono ?_
 rintro e w2 ⟨rfl, hb⟩
 have HB2 := step_below HB hb
 have hS2 := HSm.out.keep HB2.out
 have hcE := hS2.blk.cE
 have hcT := hS2.blk.cT
 have HSt := HSe w2 HB2.out
 clear hb hS2 HSe
 go_wp2_with fail
 refine HSt.mono ?_
 rintro e w3 ⟨rfl, hto⟩
 have HR : Hid (SmallTo w w3 B m x E T p a (l ++ (k, v) :: r)) := SmallTo.after HB2.out hto
 clear hto
 go_wp2
 go_ret2
 exact ⟨rfl, HR.out⟩
set_option maxRecDepth 100000 in
set_option maxHeartbeats 4000000 in
theorem Set_new (B m x E T p : Nat) (a : Option Addr) (n c : Nat) (es : List En) (k v : ByteArray) (w : World) (h : Small w B m x E T p a n c es) (hk : k.size ≤ T) (hv : v.size ≤ T) (hno : k ∉ keysOf es) (hlt : es.length < E) :
  Calls Tryz.prog 16 #[ptr m, .string k, .string v] w fun e w' => e = .returned (.tuple #[.bool true, .int .i64 0]) ∧ SmallTo w w' B m x E T p a (es ++ [(k, v)]) := by
 obtain ⟨q, hq⟩ : ∃ q, max k.size v.size = q := ⟨_, rfl⟩
 have HQ : Hid (max k.size v.size = q) := hq
 have hz : (q : Int) ≤ 4096 := by have := h.hT; omega
 have hqT : (q : Int) ≤ T := by omega
 have HL := Len_small B m x E T p a n c _ w h
 have HSm : Hid (Small w B m x E T p a n c es) := h
 have hT6 := h.hT
 have hE5 := h.hE
 have HHv : Hid (k.size ≤ T ∧ v.size ≤ T ∧ k ∉ keysOf es ∧ es.length < E) := ⟨hk, hv, hno, hlt⟩
 obtain ⟨bf, hbf⟩ : ∃ bf, es.length = bf := ⟨_, rfl⟩
 rw [hbf] at HL hlt
 have hltz : (bf : Int) < E := by omega
 clear hq h hv hk hno hbf
 go_enter Tryz.func16, Tryz.ntmps16
 go_upto_region 1 with fail
 go_cut [8] from 11 to 15 (fun s wx => s = .int .i64 q ∧ w = wx)
 case first =>
  go_wp2
  all_goals
   go_meet
   have := HQ.out
   refine ⟨?_, rfl⟩
   first
    | rw [show (q : Int) = k.size by omega]
    | rw [show (q : Int) = v.size by omega]
 case rest =>
 obtain ⟨rfl, rfl⟩ := hcut
 go_wp2_with fail
 refine HL.mono ?_
 rintro e w1 ⟨rfl, hb⟩
 have hS1 := HSm.out.keep hb
 have HB : Hid (Below w.heap.size w w1) := hb
 have HP1 := Packed_yes m x E T _ w1 hS1.blk
 have HF := find_no B m x E T p a n c es k w1 hS1 HHv.out.2.2.1
 clear hb hS1
 go_wp2_with fail
 refine HP1.mono ?_
 rintro e w2 ⟨rfl, rfl⟩
 go_wp2_with fail
 refine HF.mono ?_
 rintro e w2 ⟨rfl, hb⟩
 have HB2 := step_below HB hb
 have hS2 := HSm.out.keep HB2.out
 have hcE := hS2.blk.cE
 have hcT := hS2.blk.cT
 have HSt := setSmall_new B m x E T p a n c es k v w2 hS2 HHv.out.1 HHv.out.2.1 HHv.out.2.2.2 HHv.out.2.2.1
 clear hb hS2
 go_wp2_with fail
 refine HSt.mono ?_
 rintro e w3 ⟨rfl, hto⟩
 have HR : Hid (SmallTo w w3 B m x E T p a (es ++ [(k, v)])) := SmallTo.after HB2.out hto
 clear hto
 go_wp2
 go_ret2
 exact ⟨rfl, HR.out⟩
def UnTo (w w' : World) (B m x E T d : Nat) (D : Dg) (es : List En) : Prop := Large w' B m x E T d D ∧ D.es.Perm es ∧ Stay w w' [m] ∧ (∀ k ∈ d :: D.pb :: Dk.fpL D.L, w.heap.size ≤ k)
theorem UnTo.keep {w w1 w2 : World} {B m x E T d : Nat} {D : Dg} {es : List En} (h : UnTo w w1 B m x E T d D es) (hb : Below w1.heap.size w1 w2) : UnTo w w2 B m x E T d D es :=
 ⟨h.1.keep hb, h.2.1, h.2.2.1.trans (M' := []) (Stay.of_below hb []) (fun _ hi => absurd hi List.not_mem_nil), h.2.2.2⟩
theorem find_some (B m x E T p : Nat) (a : Option Addr) (n c : Nat) (es : List En) (k : ByteArray) (w : World) (h : Small w B m x E T p a n c es) : ∃ z : Int, -1 ≤ z ∧ z ≤ 1024 ∧ Calls Tryz.prog 54 #[ptr m, .string k] w fun e w' => e = .returned (.int .i64 z) ∧ Below w.heap.size w w' := by
 by_cases hk : k ∈ keysOf es
 ·obtain ⟨l, u, r, e⟩ := Dk.key_split hk
  refine ⟨_, ?_, ?_, find_yes B m x E T p a n c es l r k u w h e⟩
  ·omega
  ·have h1 := h.le; have := h.hE; rw [e, List.length_append] at h1; omega
 ·exact ⟨-1, by omega, by omega, find_no B m x E T p a n c es k w h hk⟩
set_option maxRecDepth 100000 in
set_option maxHeartbeats 4000000 in
theorem Set_unS (B m x E T p : Nat) (a : Option Addr) (n c : Nat) (es : List En) (k v : ByteArray) (w : World) (hx : x < 18446744073709551616) (h : Small w B m x E T p a n c es) (hB : B ≤ w.heap.size) (hk : k.size ≤ 4096) (hv : v.size ≤ 4096) (hc : T < max k.size v.size) :
  Calls Tryz.prog 16 #[ptr m, .string k, .string v] w fun e w' => e = .returned (.tuple #[.bool (!hasK es k), .int .i64 0]) ∧ ∃ d D', UnTo w w' B m x E T d D' (putE es k v) := by
 obtain ⟨q, hq⟩ : ∃ q, max k.size v.size = q := ⟨_, rfl⟩
 have HQ : Hid (max k.size v.size = q) := hq
 have hz : (q : Int) ≤ 4096 := by omega
 have hqT : (T : Int) < q := by omega
 have HL := Len_small B m x E T p a n c _ w h
 have HSm : Hid (Small w B m x E T p a n c es) := h
 have hT6 := h.hT
 have hE5 := h.hE
 have HG : Hid (decide (es.length < (putE es k v).length) = !hasK es k) := gt_len _ _ _
 have HSz : Hid (k.size ≤ 4096 ∧ v.size ≤ 4096) := ⟨hk, hv⟩
 have HBF : Hid (es.length ≤ 512) := by have := h.le; show _ ≤ _; omega
 clear hc
 generalize es.length = bf at HL HG
 generalize hasK es k = t at HG ⊢
 clear hq h hv hk
 go_enter Tryz.func16, Tryz.ntmps16
 go_upto_region 1 with fail
 go_cut [8] from 11 to 15 (fun s wx => s = .int .i64 q ∧ w = wx)
 case first =>
  go_wp2
  all_goals
   go_meet
   have := HQ.out
   refine ⟨?_, rfl⟩
   first
    | rw [show (q : Int) = k.size by omega]
    | rw [show (q : Int) = v.size by omega]
 case rest =>
 obtain ⟨rfl, rfl⟩ := hcut
 go_wp2_with fail
 refine HL.mono ?_
 rintro e w1 ⟨rfl, hb⟩
 have hS1 := HSm.out.keep hb
 have HB : Hid (Below w.heap.size w w1) := hb
 have HP1 := Packed_yes m x E T _ w1 hS1.blk
 obtain ⟨at_, hat1, hat2, HF⟩ := find_some B m x E T p a n c es k w1 hS1
 clear hb hS1
 go_wp2_with fail
 refine HP1.mono ?_
 rintro e w2 ⟨rfl, rfl⟩
 go_wp2_with fail
 refine HF.mono ?_
 rintro e w2 ⟨rfl, hb⟩
 have HB2 := step_below HB hb
 have hS2 := HSm.out.keep HB2.out
 have hcE := hS2.blk.cE
 have hcT := hS2.blk.cT
 have HUn := unpack_any B m x E T p a n c es w2 hx hS2 (Nat.le_trans hB HB2.out.size)
 clear hb hS2
 go_wp2_with fail
 refine HUn.mono ?_
 rintro e w3 ⟨rfl, d, D, hL, hp, hst, hnw⟩
 have hc := hL.blk.cl
 have HPu := Dk.PutD B d x D k v w3 hL.dc (by have := HSz.out; unfold maxLen; omega) (by have := hp.length_eq; have := HBF.out; omega)
 have HL3 : Hid (Large w3 B m x E T d D ∧ D.es.Perm es ∧ Stay w2 w3 [m] ∧ (∀ k ∈ d :: D.pb :: Dk.fpL D.L, w2.heap.size ≤ k)) := ⟨hL, hp, hst, hnw⟩
 clear hL hp hst hnw
 go_wp2_with fail
 refine HPu.mono ?_
 rintro e w4 ⟨rfl, D', hT, hp⟩
 have hp2 : D'.es.Perm (putE es k v) := hp.trans (Dk.putE_perm HL3.out.2.1 k v)
 have hL4 := HL3.out.1.turn hT ((HL3.out.1.sz.put HSz.out.1 HSz.out.2).perm hp.symm)
 have HLn := Len_large B m x E T d D' w4 hL4
 rw [hp2.length_eq] at HLn
 have HR : Hid (UnTo w w4 B m x E T d D' (putE es k v)) := ⟨hL4, hp2, (Stay.of_below HB2.out _).trans (HL3.out.2.2.1.trans (M' := d :: D.pb :: Dk.fpL D.L) hT.stay (fun i hi => .inr (HL3.out.2.2.2 i hi))) (fun i hi => .inl hi), fun i hi => (hT.fps i hi).elim (fun h => Nat.le_trans HB2.out.size (HL3.out.2.2.2 i h)) (fun h => Nat.le_trans HB2.out.size (Nat.le_trans HL3.out.2.2.1.size h))⟩
 generalize (putE es k v).length = nl at HG HLn
 clear hT hp hp2 hL4
 go_wp2_with fail
 refine HLn.mono ?_
 rintro e w5 ⟨rfl, hb⟩
 have HR5 : Hid (UnTo w w5 B m x E T d D' (putE es k v)) := HR.out.keep hb
 have hg := HG.out
 clear hb
 go_wp2
 go_ret2
 exact ⟨by rw [← hg]; rfl, d, D', HR5.out⟩
set_option maxRecDepth 100000 in
set_option maxHeartbeats 4000000 in
theorem Set_unE (B m x E T p : Nat) (a : Option Addr) (n c : Nat) (es : List En) (k v : ByteArray) (w : World) (hx : x < 18446744073709551616) (h : Small w B m x E T p a n c es) (hB : B ≤ w.heap.size) (hk : k.size ≤ 4096) (hv : v.size ≤ 4096) (hc : max k.size v.size ≤ T) (hno : k ∉ keysOf es) (hE : E ≤ es.length) :
  Calls Tryz.prog 16 #[ptr m, .string k, .string v] w fun e w' => e = .returned (.tuple #[.bool (!hasK es k), .int .i64 0]) ∧ ∃ d D', UnTo w w' B m x E T d D' (putE es k v) := by
 obtain ⟨q, hq⟩ : ∃ q, max k.size v.size = q := ⟨_, rfl⟩
 have HQ : Hid (max k.size v.size = q) := hq
 have hz : (q : Int) ≤ 4096 := by omega
 have hqT : (q : Int) ≤ T := by omega
 have HL := Len_small B m x E T p a n c _ w h
 have HSm : Hid (Small w B m x E T p a n c es) := h
 have hT6 := h.hT
 have hE5 := h.hE
 have HG : Hid (decide (es.length < (putE es k v).length) = !hasK es k) := gt_len _ _ _
 have HSz : Hid (k.size ≤ 4096 ∧ v.size ≤ 4096) := ⟨hk, hv⟩
 have HBF : Hid (es.length ≤ 512) := by have := h.le; show _ ≤ _; omega
 have HNo : Hid (k ∉ keysOf es) := hno
 obtain ⟨bf, hbf⟩ : ∃ bf, es.length = bf := ⟨_, rfl⟩
 rw [hbf] at HL HG hE
 have hltz : ¬ ((bf : Int) < E) := by omega
 clear hc hno hbf
 generalize hasK es k = t at HG ⊢
 clear hq h hv hk
 go_enter Tryz.func16, Tryz.ntmps16
 go_upto_region 1 with fail
 go_cut [8] from 11 to 15 (fun s wx => s = .int .i64 q ∧ w = wx)
 case first =>
  go_wp2
  all_goals
   go_meet
   have := HQ.out
   refine ⟨?_, rfl⟩
   first
    | rw [show (q : Int) = k.size by omega]
    | rw [show (q : Int) = v.size by omega]
 case rest =>
 obtain ⟨rfl, rfl⟩ := hcut
 go_wp2_with fail
 refine HL.mono ?_
 rintro e w1 ⟨rfl, hb⟩
 have hS1 := HSm.out.keep hb
 have HB : Hid (Below w.heap.size w w1) := hb
 have HP1 := Packed_yes m x E T _ w1 hS1.blk
 obtain ⟨at_, hat1, hat2, HF⟩ := (⟨-1, by omega, by omega, find_no B m x E T p a n c es k w1 hS1 HNo.out⟩ : ∃ z : Int, z = -1 ∧ z = -1 ∧ Calls Tryz.prog 54 #[ptr m, .string k] w1 fun e w' => e = .returned (.int .i64 z) ∧ Below w1.heap.size w1 w')
 subst hat1
 clear hb hS1
 go_wp2_with fail
 refine HP1.mono ?_
 rintro e w2 ⟨rfl, rfl⟩
 go_wp2_with fail
 refine HF.mono ?_
 rintro e w2 ⟨rfl, hb⟩
 have HB2 := step_below HB hb
 have hS2 := HSm.out.keep HB2.out
 have hcE := hS2.blk.cE
 have hcT := hS2.blk.cT
 have HUn := unpack_any B m x E T p a n c es w2 hx hS2 (Nat.le_trans hB HB2.out.size)
 clear hb hS2
 go_wp2_with fail
 refine HUn.mono ?_
 rintro e w3 ⟨rfl, d, D, hL, hp, hst, hnw⟩
 have hc := hL.blk.cl
 have HPu := Dk.PutD B d x D k v w3 hL.dc (by have := HSz.out; unfold maxLen; omega) (by have := hp.length_eq; have := HBF.out; omega)
 have HL3 : Hid (Large w3 B m x E T d D ∧ D.es.Perm es ∧ Stay w2 w3 [m] ∧ (∀ k ∈ d :: D.pb :: Dk.fpL D.L, w2.heap.size ≤ k)) := ⟨hL, hp, hst, hnw⟩
 clear hL hp hst hnw
 go_wp2_with fail
 refine HPu.mono ?_
 rintro e w4 ⟨rfl, D', hT, hp⟩
 have hp2 : D'.es.Perm (putE es k v) := hp.trans (Dk.putE_perm HL3.out.2.1 k v)
 have hL4 := HL3.out.1.turn hT ((HL3.out.1.sz.put HSz.out.1 HSz.out.2).perm hp.symm)
 have HLn := Len_large B m x E T d D' w4 hL4
 rw [hp2.length_eq] at HLn
 have HR : Hid (UnTo w w4 B m x E T d D' (putE es k v)) := ⟨hL4, hp2, (Stay.of_below HB2.out _).trans (HL3.out.2.2.1.trans (M' := d :: D.pb :: Dk.fpL D.L) hT.stay (fun i hi => .inr (HL3.out.2.2.2 i hi))) (fun i hi => .inl hi), fun i hi => (hT.fps i hi).elim (fun h => Nat.le_trans HB2.out.size (HL3.out.2.2.2 i h)) (fun h => Nat.le_trans HB2.out.size (Nat.le_trans HL3.out.2.2.1.size h))⟩
 generalize (putE es k v).length = nl at HG HLn
 clear hT hp hp2 hL4
 go_wp2_with fail
 refine HLn.mono ?_
 rintro e w5 ⟨rfl, hb⟩
 have HR5 : Hid (UnTo w w5 B m x E T d D' (putE es k v)) := HR.out.keep hb
 have hg := HG.out
 clear hb
 go_wp2
 go_ret2
 exact ⟨by rw [← hg]; rfl, d, D', HR5.out⟩
def htag (t : TypeId) : Bool := dtag t || t == 83 || t == 132 || t == 5
def Hm (w : World) (B m x E T : Nat) (es : List En) (pk : Bool) (F : List Nat) : Prop :=
 x < 18446744073709551616 ∧ B ≤ w.heap.size ∧ ((pk = true ∧ ∃ p a n c fs, Small w B m x E T p a n c fs ∧ fs.Perm es ∧ F = m :: pfp p a) ∨ (pk = false ∧ ∃ d D, Large w B m x E T d D ∧ D.es.Perm es ∧ F = m :: d :: D.pb :: Dk.fpL D.L))
theorem Hm.keep {w wn : World} {B m x E T : Nat} {es : List En} {pk : Bool} {F : List Nat} (h : Hm w B m x E T es pk F) (hb : Below w.heap.size w wn) : Hm wn B m x E T es pk F := by
 obtain ⟨h1, h2, h3⟩ := h
 refine ⟨h1, Nat.le_trans h2 hb.size, ?_⟩
 rcases h3 with ⟨h3, p, a, n, c, fs, h4, h5⟩ | ⟨h3, d, D, h4, h5⟩
 ·exact .inl ⟨h3, p, a, n, c, fs, h4.keep hb, h5⟩
 ·exact .inr ⟨h3, d, D, h4.keep hb, h5⟩
theorem Hm.nod {w : World} {B m x E T : Nat} {es : List En} {pk : Bool} {F : List Nat} (h : Hm w B m x E T es pk F) : (keysOf es).Nodup := by
 obtain ⟨h1, h2, h3⟩ := h
 rcases h3 with ⟨h3, p, a, n, c, fs, h4, h5, h6⟩ | ⟨h3, d, D, h4, h5, h6⟩
 ·exact (h5.map Prod.fst).nodup_iff.1 h4.nod
 ·exact (h5.map Prod.fst).nodup_iff.1 h4.dc.nodk
theorem mem_pfp {p : Nat} {a : Option Addr} {k : Nat} (h : k ∈ pfp p a) : k = p ∨ a.map (·.block) = some k := by
 unfold pfp at h
 rcases List.mem_cons.1 h with h | h
 ·exact .inl h
 ·exact .inr (Option.mem_toList.1 h)
theorem pfp_mem {p : Nat} {a : Option Addr} {k : Nat} (h : k = p ∨ a.map (·.block) = some k) : k ∈ pfp p a := by
 unfold pfp
 rcases h with h | h
 ·exact List.mem_cons.2 (.inl h)
 ·exact List.mem_cons.2 (.inr (Option.mem_toList.2 h))
theorem Hm.tags {w : World} {B m x E T : Nat} {es : List En} {pk : Bool} {F : List Nat} (h : Hm w B m x E T es pk F) : ∀ k ∈ F, B ≤ k ∧ k < w.heap.size ∧ ∃ cs t, w.heap[k]? = some (.cells cs t (0, 0)) ∧ htag t = true := by
 obtain ⟨h1, h2, h3⟩ := h
 intro k hk
 rcases h3 with ⟨h3, p, a, n, c, fs, h4, h5, rfl⟩ | ⟨h3, d, D, h4, h5, rfl⟩
 ·rcases List.mem_cons.1 hk with rfl | hk
  ·exact ⟨h4.low, h4.blk.lt, _, _, h4.blk.blk, rfl⟩
  rcases mem_pfp hk with rfl | hk
  ·exact ⟨h4.pk.low, h4.pk.lt, _, _, h4.pk.blk, rfl⟩
  ·obtain ⟨k1, k2, cur, k3⟩ := Dk.OwnR.lt (h4.pk.own : Dk.OwnR w B 5 1 a n c _) hk
   exact ⟨k1, k2, _, _, k3, rfl⟩
 ·rcases List.mem_cons.1 hk with rfl | hk
  ·exact ⟨h4.low, h4.blk.lt, _, _, h4.blk.blk, rfl⟩
  ·obtain ⟨cs, t, k1, k2⟩ := h4.dc.tags k hk
   exact ⟨(h4.dc.fplt k hk).1, (h4.dc.fplt k hk).2, cs, t, k1, by unfold htag; rw [k2]; rfl⟩
def HTo (w w' : World) (B m x E T : Nat) (es : List En) (pk : Bool) (F : List Nat) : Prop := ∃ F', Hm w' B m x E T es pk F' ∧ Stay w w' F ∧ (∀ k ∈ F', k ∈ F ∨ w.heap.size ≤ k)
theorem HTo.below {w w' : World} {B m x E T : Nat} {es gs : List En} {pk pk' : Bool} {F : List Nat} (h : HTo w w' B m x E T es pk F) (h0 : Hm w B m x E T gs pk' F) : Below B w w' := by
 obtain ⟨F', -, h2, -⟩ := h
 exact h2.below (fun k hk => (h0.tags k hk).1) h0.2.1
theorem SmallTo.hto {w w' : World} {B m x E T p : Nat} {a : Option Addr} {es fs : List En} (h : SmallTo w w' B m x E T p a fs) (hp : fs.Perm es) (hx : x < 18446744073709551616) (hB : B ≤ w.heap.size) : HTo w w' B m x E T es true (m :: pfp p a) := by
 obtain ⟨hm, a', n', c', h1, h2⟩ := h
 refine ⟨m :: pfp p a', ⟨hx, Nat.le_trans hB hm.size, .inl ⟨rfl, p, a', n', c', fs, h1, hp, rfl⟩⟩, ⟨hm.os, hm.tape, hm.output, hm.size, fun k hk hn => hm.block k hk (fun e => hn (List.mem_cons_of_mem _ (pfp_mem (.inl e)))) (fun e => hn (List.mem_cons_of_mem _ (pfp_mem (.inr e.symm))))⟩, ?_⟩
 intro k hk
 rcases List.mem_cons.1 hk with rfl | hk
 ·exact .inl (by simp)
 rcases mem_pfp hk with rfl | hk
 ·exact .inl (List.mem_cons_of_mem _ (pfp_mem (.inl rfl)))
 ·exact (h2.blk hk).imp (fun h => List.mem_cons_of_mem _ (pfp_mem (.inr h))) id
theorem turn_hto {w w' : World} {B m x E T d : Nat} {D D' : Dg} {es : List En} (hT : Turn w w' B d x D D') (h : Large w' B m x E T d D') (hp : D'.es.Perm es) (hx : x < 18446744073709551616) (hB : B ≤ w.heap.size) : HTo w w' B m x E T es false (m :: d :: D.pb :: Dk.fpL D.L) := by
 refine ⟨_, ⟨hx, Nat.le_trans hB hT.stay.size, .inr ⟨rfl, d, D', h, hp, rfl⟩⟩, hT.stay.mono (fun k hk => List.mem_cons_of_mem _ hk), ?_⟩
 intro k hk
 rcases List.mem_cons.1 hk with rfl | hk
 ·exact .inl (by simp)
 ·exact (hT.fps k hk).imp (fun h => List.mem_cons_of_mem _ h) id
theorem NewH (x : Nat) (e t : Int) (w : World) (hx : x < 18446744073709551616) :
  Calls Tryz.prog 67 #[.int .u64 x, .agg #[.int .i64 e, .int .i64 t]] w fun en w' => Below w.heap.size w w' ∧ ∃ m F, en = .returned (ptr m) ∧ Hm w' w.heap.size m x (lim e 512) (lim t 60) [] true F := by
 refine (New_hm x e t w).mono ?_
 rintro en w' ⟨hb, m, p, a, n, c, rfl, h⟩
 exact ⟨hb, m, _, rfl, hx, hb.size, .inl ⟨rfl, p, a, n, c, [], h, List.Perm.refl _, rfl⟩⟩
theorem PackedH (B m x E T : Nat) (es : List En) (pk : Bool) (F : List Nat) (w : World) (h : Hm w B m x E T es pk F) : Calls Tryz.prog 33 #[ptr m] w fun e w' => e = .returned (.bool pk) ∧ w' = w := by
 obtain ⟨h1, h2, h3⟩ := h
 rcases h3 with ⟨rfl, p, a, n, c, fs, h4, h5, rfl⟩ | ⟨rfl, d, D, h4, h5, rfl⟩
 ·exact Packed_yes m x E T _ w h4.blk
 ·exact Packed_no m x E T d _ w h4.blk
theorem LenH (B m x E T : Nat) (es : List En) (pk : Bool) (F : List Nat) (w : World) (h : Hm w B m x E T es pk F) : Calls Tryz.prog 53 #[ptr m] w fun e w' => e = .returned (.int .i64 (es.length : Nat)) ∧ Below w.heap.size w w' := by
 obtain ⟨h1, h2, h3⟩ := h
 rcases h3 with ⟨rfl, p, a, n, c, fs, h4, h5, rfl⟩ | ⟨rfl, d, D, h4, h5, rfl⟩
 ·rw [← h5.length_eq]; exact Len_small B m x E T p a n c fs w h4
 ·rw [← h5.length_eq]; exact Len_large B m x E T d D w h4
theorem AllH (B m x E T : Nat) (es : List En) (pk : Bool) (F : List Nat) (w : World) (h : Hm w B m x E T es pk F) : Calls Tryz.prog 35 #[ptr m] w fun e w' => Below w.heap.size w w' ∧ ∃ a n c fs, e = .returned (.slice a n c) ∧ OwnQ w' w.heap.size a n c fs ∧ fs.Perm es := by
 obtain ⟨h1, h2, h3⟩ := h
 rcases h3 with ⟨rfl, p, a, n, c, fs, h4, h5, rfl⟩ | ⟨rfl, d, D, h4, h5, rfl⟩
 ·refine (All_small B m x E T p a n c fs w h4).mono ?_
  rintro e w' ⟨hb, a2, n2, c2, rfl, hO⟩
  exact ⟨hb, a2, n2, c2, fs, rfl, hO, h5⟩
 ·refine (All_large B m x E T d D w h4 h2).mono ?_
  rintro e w' ⟨hb, a2, n2, c2, fs, rfl, hO, hp⟩
  exact ⟨hb, a2, n2, c2, fs, rfl, hO, hp.trans h5⟩
def pkE (es : List En) (pk : Bool) (E T : Nat) (k v : ByteArray) : Bool := pk && decide ((putE es k v).length ≤ E) && decide (k.size ≤ T) && decide (v.size ≤ T)
theorem SetH (B m x E T : Nat) (es : List En) (pk : Bool) (F : List Nat) (k v : ByteArray) (w : World) (h : Hm w B m x E T es pk F) (hk : k.size ≤ 4096) (hv : v.size ≤ 4096) (hle : es.length < 1000000) :
  Calls Tryz.prog 16 #[ptr m, .string k, .string v] w fun e w' => e = .returned (.tuple #[.bool (!hasK es k), .int .i64 0]) ∧ HTo w w' B m x E T (putE es k v) (pkE es pk E T k v) F := by
 obtain ⟨h1, h2, h3⟩ := h
 rcases h3 with ⟨rfl, p, a, n, c, fs, h4, h5, rfl⟩ | ⟨rfl, d, D, h4, h5, rfl⟩
 ·have hun : pkE es true E T k v = false → (Calls Tryz.prog 16 #[ptr m, .string k, .string v] w fun e w' => e = .returned (.tuple #[.bool (!hasK fs k), .int .i64 0]) ∧ ∃ d D', UnTo w w' B m x E T d D' (putE fs k v)) → Calls Tryz.prog 16 #[ptr m, .string k, .string v] w fun e w' => e = .returned (.tuple #[.bool (!hasK es k), .int .i64 0]) ∧ HTo w w' B m x E T (putE es k v) (pkE es true E T k v) (m :: pfp p a) := by
   intro e1 hc
   rw [e1, ← Dk.hasK_perm h5]
   refine hc.mono ?_
   rintro e w' ⟨rfl, d, D', hL, hp, hs, hn⟩
   refine ⟨rfl, _, ⟨h1, Nat.le_trans h2 hs.size, .inr ⟨rfl, d, D', hL, hp.trans (Dk.putE_perm h5 k v), rfl⟩⟩, hs.mono (fun i hi => by simp only [List.mem_singleton] at hi; simp [hi]), ?_⟩
   intro i hi
   rcases List.mem_cons.1 hi with rfl | hi
   ·exact .inl (by simp)
   ·exact .inr (hn i hi)
  have hlen := hasK_len es k v
  have hl5 := h5.length_eq
  by_cases hq : max k.size v.size ≤ T
  ·have e2 : decide (k.size ≤ T) = true ∧ decide (v.size ≤ T) = true := ⟨by simp; omega, by simp; omega⟩
   by_cases hm : k ∈ keysOf fs
   ·obtain ⟨l, u, r, e⟩ := Dk.key_split hm
    have hh : hasK es k = true := by rw [← Dk.hasK_perm h5]; exact Dk.hasK_iff.2 hm
    have e1 : pkE es true E T k v = true := by
     unfold pkE
     rw [e2.1, e2.2, hlen, hh]
     have := h4.le
     simp; omega
    rw [e1, hh]
    subst e
    refine (Set_old B m x E T p a n c l r k u v w h4 (by omega)).mono ?_
    rintro e w' ⟨rfl, ht⟩
    refine ⟨rfl, ht.hto ?_ h1 h2⟩
    rw [← Dk.putE_old h4.nod]
    exact Dk.putE_perm h5 k v
   ·have hh : hasK es k = false := by rw [← Dk.hasK_perm h5]; exact Dk.hasK_no hm
    by_cases hE : fs.length < E
    ·have e1 : pkE es true E T k v = true := by
      unfold pkE
      rw [e2.1, e2.2, hlen, hh]
      simp; omega
     rw [e1, hh]
     refine (Set_new B m x E T p a n c fs k v w h4 (by omega) (by omega) hm hE).mono ?_
     rintro e w' ⟨rfl, ht⟩
     refine ⟨rfl, ht.hto ?_ h1 h2⟩
     have h6 := Dk.putE_perm h5 k v
     have h7 : putE fs k v = fs ++ [(k, v)] := by unfold putE; rw [if_neg (by rw [Dk.hasK_no hm]; decide)]
     rw [h7] at h6
     exact h6
    ·refine hun ?_ (Set_unE B m x E T p a n c fs k v w h1 h4 h2 hk hv hq hm (by omega))
     unfold pkE
     rw [hlen, hh]
     simp; omega
  ·refine hun ?_ (Set_unS B m x E T p a n c fs k v w h1 h4 h2 hk hv (by omega))
   unfold pkE
   simp; omega
 ·rw [← Dk.hasK_perm h5, show pkE es false E T k v = false by unfold pkE; simp]
  refine (Set_large B m x E T d D k v w h4 hk hv (by rw [h5.length_eq]; exact hle)).mono ?_
  rintro e w' ⟨rfl, D', hT, hL, hp⟩
  exact ⟨rfl, turn_hto hT hL (hp.trans (Dk.putE_perm h5 k v)) h1 h2⟩
def wi (n : Int) (hi : Nat) : Nat := (if n.tmod (hi + 1) < 0 then n.tmod (hi + 1) + hi + 1 else n.tmod (hi + 1)).toNat
theorem wi_le (n : Int) (hi : Nat) : wi n hi ≤ hi := by
 unfold wi
 have h1 := Int.tmod_lt_of_pos n (b := (hi + 1 : Int)) (by omega)
 have h2 := Int.lt_tmod_of_pos n (b := (hi + 1 : Int)) (by omega)
 split <;> omega
theorem Within_wi (n : Int) (hi : Nat) (w : World) (h1 : hi ≤ 1073741824) :
  Calls Tryz.prog 19 #[.int .i64 n, .int .i64 0, .int .i64 hi] w fun e w' => e = .returned (.int .i64 (wi n hi : Nat)) ∧ w' = w := by
 have h3 := Int.tmod_lt_of_pos n (b := (hi + 1 : Int)) (by omega)
 have h4 := Int.lt_tmod_of_pos n (b := (hi + 1 : Int)) (by omega)
 have hz : ((hi : Int) + 1 == 0) = false := by simp; omega
 obtain ⟨r, hr⟩ : ∃ r, n.tmod (hi + 1) = r := ⟨_, rfl⟩
 have HW : Hid (wi n hi = (if r < 0 then r + hi + 1 else r).toNat) := by show _ = _; unfold wi; rw [hr]
 rw [hr] at h3 h4
 by_cases hn : r < 0
 ·have HW2 : Hid ((wi n hi : Int) = r + hi + 1) := by show _ = _; rw [HW.out, if_pos hn]; omega
  clear HW
  go_enter Tryz.func19, Tryz.ntmps19
  go_wp2
  go_ret
  exact ⟨by rw [HW2.out]; rfl, rfl⟩
 ·have HW2 : Hid ((wi n hi : Int) = r) := by show _ = _; rw [HW.out, if_neg hn]; omega
  clear HW
  go_enter Tryz.func19, Tryz.ntmps19
  go_wp2
  go_ret
  exact ⟨by rw [HW2.out]; rfl, rfl⟩
end Go.Proofs.YtikimcbalkhooaaGreat
