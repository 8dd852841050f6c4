/-
  The books' Pairs: two rows of the same pairs.
  Two hashes, side by side.
-/
import Derived.Test.YtembjlckcgginaaGreatG15
namespace Go.Proofs.YtembjlckcgginaaGreat
open Go.RowKit Go.PlainAid
open Dk (En Stay hasK putE delE getE keysOf Dct Dg dtag ecells Turn)

def cntE (l : List En) (x : En) : Nat := l.countP fun e => decide (e = x)
theorem cntE_snoc (l : List En) (x y : En) : cntE (l ++ [y]) x = cntE l x + if y = x then 1 else 0 := by
  unfold cntE
  rw [List.countP_append]
  by_cases h : y = x <;> simp [h]
theorem cntE_le (l : List En) (x : En) : cntE l x ≤ l.length := List.countP_le_length
theorem cntE_perm {l r : List En} (h : l.Perm r) (x : En) : cntE l x = cntE r x := h.countP_eq _

theorem list_inj {s t : ByteArray} : s.toList = t.toList ↔ s = t := by
  have h := str_beq s t
  constructor
  · intro e
    rw [e, beq_self_eq_true] at h
    exact of_decide_eq_true h.symm
  · rintro rfl; rfl
/-- Two pairs: the three ways. -/
theorem pair_ways (y1 y2 x1 x2 : ByteArray) : (y1.toList = x1.toList ∧ y2.toList = x2.toList ∧ (if ((y1, y2) : En) = (x1, x2) then 1 else 0) = 1) ∨ (y1.toList = x1.toList ∧ ¬ y2.toList = x2.toList ∧ (if ((y1, y2) : En) = (x1, x2) then 1 else 0) = 0) ∨ (¬ y1.toList = x1.toList ∧ True ∧ (if ((y1, y2) : En) = (x1, x2) then 1 else 0) = 0) := by
  rw [list_inj, list_inj]
  by_cases h1 : y1 = x1
  · by_cases h2 : y2 = x2
    · exact .inl ⟨h1, h2, by rw [h1, h2, if_pos rfl]⟩
    · exact .inr (.inl ⟨h1, h2, by rw [if_neg (fun e => h2 (congrArg Prod.snd e))]⟩)
  · exact .inr (.inr ⟨h1, trivial, by rw [if_neg (fun e => h1 (congrArg Prod.fst e))]⟩)
set_option maxRecDepth 100000 in
set_option maxHeartbeats 4000000 in
theorem Pairs_same (B C : Nat) (a1 a2 : Option Addr) (n c1 c2 : Nat) (l1 l2 : List En) (w : World) (h1 : OwnQ w B a1 n c1 l1) (h2 : OwnQ w C a2 n c2 l2) (hp : l1.Perm l2) (hn : n ≤ 1000000) :
    Calls Tryz.prog 18 #[.slice a1 n c1, .slice a2 n c2] w fun e w' => e = .returned (.bool true) ∧ Below w.heap.size w w' := by
  have H1 : Hid (OwnQ w B a1 n c1 l1) := h1
  have H2 : Hid (OwnQ w C a2 n c2 l2) := h2
  have HP : Hid (l1.Perm l2) := hp
  have HL1 : Hid (l1.length = n) := OwnQ.len h1
  have HL2 : Hid (l2.length = n) := OwnQ.len h2
  clear h1 h2 hp
  go_enter Tryz.func18, Tryz.ntmps18
  go_wp2
  go_loopg [5, 6, 7, 8] n (fun g iv nv mv kv wr => ∃ i : Nat, i + g = n ∧ iv = .int .i64 i ∧ Hid (Below w.heap.size w wr))
  case atStart => exact ⟨0, by omega, rfl, Below.refl _ _⟩
  case round =>
    obtain ⟨i, hi, rfl, HB⟩ := hrel
    by_cases h8 : (i : Int) < n
    · obtain ⟨g1, hg1, hx1, hx2⟩ := OwnQ.cell (H1.out.keep HB.out) (j := i) (by omega)
      have HG1 : Hid (a1 = some ⟨g1, 0, none⟩) := hg1
      clear hg1
      obtain ⟨x, hx⟩ : ∃ x, l1.getD i (⟨#[]⟩, ⟨#[]⟩) = x := ⟨_, rfl⟩
      rw [hx] at hx1 hx2
      clear hx
      obtain ⟨wb, hwb⟩ : ∃ wb, wb = wr := ⟨_, rfl⟩
      have HBb : Hid (Below w.heap.size w wb) := by rw [hwb]; exact HB
      rename_i gk0 _
      subst hwb
      have hgk : i + gk = n := hi
      obtain ⟨gq, hgq⟩ : ∃ gq, gq = gk := ⟨_, rfl⟩
      subst hgq
      go_wp2
      go_loopg [6, 7, 8] n (fun g nv mv kv wr => ∃ k c d : Nat, k + g = n ∧ kv = .int .i64 k ∧ nv = .int .i64 c ∧ mv = .int .i64 d ∧ c ≤ k ∧ d ≤ k ∧ Hid (cntE (l1.take k) x = c) ∧ Hid (cntE (l2.take k) x = d) ∧ Hid (Below wb.heap.size wb wr))
      case atStart => exact ⟨0, 0, 0, by omega, rfl, rfl, rfl, Nat.le_refl _, Nat.le_refl _, (rfl : cntE [] x = 0), (rfl : cntE [] x = 0), Below.refl _ _⟩
      case round =>
        obtain ⟨k, c, d, hk, rfl, rfl, rfl, hck, hdk, HC, HD, HBr⟩ := hrel
        by_cases h9 : (k : Int) < n
        · obtain ⟨g1', hg1', hy1, hy2⟩ := OwnQ.cell (H1.out.keep (HBb.out.trans (HBr.out.mono HBb.out.size))) (j := k) (by omega)
          obtain ⟨g2, hg2, hz1, hz2⟩ := OwnQ.cell (H2.out.keep (HBb.out.trans (HBr.out.mono HBb.out.size))) (j := k) (by omega)
          obtain rfl : g1 = g1' := by rw [HG1.out] at hg1'; cases hg1'; rfl
          have hg1 := HG1.out
          have hv1 : wr.cell? ⟨g1, i * 2, none⟩ = some (.string x.1) := by rw [HBr.out.cell (p := ⟨g1, i * 2, none⟩) (World.block_lt_of_cell? _ _ hx1)]; exact hx1
          have hv2 : wr.cell? ⟨g1, i * 2 + 1, none⟩ = some (.string x.2) := by rw [HBr.out.cell (p := ⟨g1, i * 2 + 1, none⟩) (World.block_lt_of_cell? _ _ hx2)]; exact hx2
          have HS1 : Hid (cntE (l1.take (k + 1)) x = cntE (l1.take k) x + if l1.getD k (⟨#[]⟩, ⟨#[]⟩) = x then 1 else 0) := by
            show _ = _
            rw [Dk.take_snoc l1 (⟨#[]⟩, ⟨#[]⟩) k (by have := HL1.out; omega), cntE_snoc]
          have HS2 : Hid (cntE (l2.take (k + 1)) x = cntE (l2.take k) x + if l2.getD k (⟨#[]⟩, ⟨#[]⟩) = x then 1 else 0) := by
            show _ = _
            rw [Dk.take_snoc l2 (⟨#[]⟩, ⟨#[]⟩) k (by have := HL2.out; omega), cntE_snoc]
          generalize l1.getD k (⟨#[]⟩, ⟨#[]⟩) = y at hy1 hy2 HS1
          generalize l2.getD k (⟨#[]⟩, ⟨#[]⟩) = z at hz1 hz2 HS2
          rw [HC.out] at HS1
          rw [HD.out] at HS2
          obtain ⟨x1, x2⟩ := x
          obtain ⟨y1, y2⟩ := y
          obtain ⟨z1, z2⟩ := z
          simp only at hv1 hv2 hy1 hy2 hz1 hz2
          have hn2 : n * 2 ≤ 2000000 := by omega
          subst hg1
          subst hg2
          clear hg1' hx1 hx2
          have HBd : Hid (Below wb.heap.size wb wr.drew.drew) := HBr.out.trans ((below_drewN wr 2).mono HBr.out.size)
          have hy1d : wr.drew.cell? ⟨g1, k * 2, none⟩ = some (.string y1) := hy1
          have hy2d : wr.drew.cell? ⟨g1, k * 2 + 1, none⟩ = some (.string y2) := hy2
          have hv1d : wr.drew.cell? ⟨g1, i * 2, none⟩ = some (.string x1) := hv1
          have hv2d : wr.drew.cell? ⟨g1, i * 2 + 1, none⟩ = some (.string x2) := hv2
          have hz1e : wr.drew.drew.cell? ⟨g2, k * 2, none⟩ = some (.string z1) := hz1
          have hz2e : wr.drew.drew.cell? ⟨g2, k * 2 + 1, none⟩ = some (.string z2) := hz2
          have hv1e : wr.drew.drew.cell? ⟨g1, i * 2, none⟩ = some (.string x1) := hv1
          have hv2e : wr.drew.drew.cell? ⟨g1, i * 2 + 1, none⟩ = some (.string x2) := hv2
          clear hy1 hy2 hz1 hz2 hv1 hv2
          rcases pair_ways y1 y2 x1 x2 with ⟨e1, e2, e3⟩ | ⟨e1, e2, e3⟩ | ⟨e1, e2, e3⟩
          all_goals rcases pair_ways z1 z2 x1 x2 with ⟨f1, f2, f3⟩ | ⟨f1, f2, f3⟩ | ⟨f1, f2, f3⟩
          all_goals
            rw [e3] at HS1
            rw [f3] at HS2
            clear e3 f3
            go_wp2_with fail
            go_region
            go_wp2_with fail
            go_region
            go_wp2
            go_roundg (gk - 1)
            case measure => omega
            case rel => exact ⟨k + 1, _, _, by omega, by go_num, by go_num, by go_num, by omega, by omega, HS1, HS2, HBd⟩
        · have hkn : k = n := by omega
          have HE : Hid (c = d) := by
            show c = d
            rw [← HC.out, ← HD.out, List.take_of_length_le (by have := HL1.out; omega), List.take_of_length_le (by have := HL2.out; omega)]
            exact cntE_perm HP.out x
          obtain rfl : c = d := HE.out
          have HB2 : Hid (Below w.heap.size w wr) := HBb.out.trans (HBr.out.mono HBb.out.size)
          go_wp2
          go_roundg (gq - 1)
          case measure => omega
          case rel => exact ⟨i + 1, by omega, by go_num, HB2⟩
    · go_wp2
      go_ret
      exact ⟨rfl, HB.out⟩
end Go.Proofs.YtembjlckcgginaaGreat

namespace Go.Proofs.YtembjlckcgginaaGreat
open Go.RowKit Go.PlainAid
open Dk (En Stay hasK putE delE getE keysOf Dct Dg dtag ecells Turn)

theorem lim_of {n hi : Nat} (h : n ≤ hi) : lim (n : Int) hi = n := by unfold lim; omega
/-- What of a hash is told: where it is, its seed, its limits, its pairs, whether it is packed. -/
structure Hs where
  m : Nat
  x : Nat
  E : Nat
  T : Nat
  es : List En
  pk : Bool
def Hs.put (h : Hs) (k v : ByteArray) : Hs := { h with es := putE h.es k v, pk := pkE h.es h.pk h.E h.T k v }
def Hs.del (h : Hs) (k : ByteArray) : Hs := { h with es := delE h.es k }
/-- Two hashes that share nothing. -/
def P2 (w : World) (B : Nat) (a b : Hs) : Prop := ∃ F G, Hm w B a.m a.x a.E a.T a.es a.pk F ∧ Hm w B b.m b.x b.E b.T b.es b.pk G ∧ (∀ k ∈ F, k ∉ G)
theorem P2.symm {w : World} {B : Nat} {a b : Hs} (h : P2 w B a b) : P2 w B b a := by
  obtain ⟨F, G, h1, h2, h3⟩ := h
  exact ⟨G, F, h2, h1, fun k hk hk2 => h3 k hk2 hk⟩
theorem P2.keep {w wn : World} {B : Nat} {a b : Hs} (h : P2 w B a b) (hb : Below w.heap.size w wn) : P2 wn B a b := by
  obtain ⟨F, G, h1, h2, h3⟩ := h
  exact ⟨F, G, h1.keep hb, h2.keep hb, h3⟩
theorem P2.nod {w : World} {B : Nat} {a b : Hs} (h : P2 w B a b) : (keysOf a.es).Nodup := by
  obtain ⟨F, G, h1, h2, h3⟩ := h
  exact h1.nod
/-- A second hash is made beside a first. -/
theorem P2.made {w w1 : World} {B : Nat} {a b : Hs} {F G : List Nat} (h : Hm w B a.m a.x a.E a.T a.es a.pk F) (hb : Below w.heap.size w w1) (h2 : Hm w1 w.heap.size b.m b.x b.E b.T b.es b.pk G) : P2 w1 B a b := by
  have hl : Hm w1 B b.m b.x b.E b.T b.es b.pk G := by
    obtain ⟨k1, k2, k3⟩ := h2
    have hB : B ≤ w.heap.size := h.2.1
    refine ⟨k1, Nat.le_trans hB hb.size, ?_⟩
    rcases k3 with ⟨k3, p, ad, n, c, fs, k4, k5⟩ | ⟨k3, d, D, k4, k5⟩
    · exact .inl ⟨k3, p, ad, n, c, fs, ⟨k4.blk, k4.pk.low' hB, Nat.le_trans hB k4.low, k4.le, k4.sz, k4.nod, k4.hE, k4.hT⟩, k5⟩
    · exact .inr ⟨k3, d, D, ⟨k4.blk, Dct.lower k4.dc hB, Nat.le_trans hB k4.low, k4.sz, k4.hE, k4.hT⟩, k5⟩
  exact ⟨F, G, h.keep hb, hl, fun k hk hk2 => by have := (h.tags k hk).2.1; have := (h2.tags k hk2).1; omega⟩
theorem P2.to {w w' : World} {B : Nat} {a b : Hs} {F G : List Nat} (h1 : Hm w B a.m a.x a.E a.T a.es a.pk F) (h2 : Hm w B b.m b.x b.E b.T b.es b.pk G) (h3 : ∀ k ∈ F, k ∉ G) {es : List En} {pk : Bool} (ht : HTo w w' B a.m a.x a.E a.T es pk F) : P2 w' B { a with es := es, pk := pk } b ∧ Below B w w' := by
  have hb := ht.below h1
  obtain ⟨F', k1, k2, k3⟩ := ht
  refine ⟨⟨F', G, k1, h2.stay k2 (fun k hk hk2 => h3 k hk2 hk), fun k hk hk2 => ?_⟩, hb⟩
  rcases k3 k hk with h | h
  · exact h3 k h hk2
  · have := (h2.tags k hk2).2.1; omega
theorem Set2 (B : Nat) (a b : Hs) (k v : ByteArray) (w : World) (h : P2 w B a b) (hk : k.size ≤ 4096) (hv : v.size ≤ 4096) (hle : a.es.length < 1000000) :
    Calls Tryz.prog 11 #[ptr a.m, .string k, .string v] w fun e w' => e = .returned (.tuple #[.bool (!hasK a.es k), .int .i64 0]) ∧ P2 w' B (a.put k v) b ∧ Below B w w' := by
  obtain ⟨F, G, h1, h2, h3⟩ := h
  refine (SetH B a.m a.x a.E a.T a.es a.pk F k v w h1 hk hv hle).mono ?_
  rintro e w' ⟨rfl, ht⟩
  exact ⟨rfl, P2.to h1 h2 h3 ht⟩
theorem Del2 (B : Nat) (a b : Hs) (k : ByteArray) (w : World) (h : P2 w B a b) (hk : k.size ≤ maxLen) :
    Calls Tryz.prog 25 #[ptr a.m, .string k] w fun e w' => e = .returned (.bool (hasK a.es k)) ∧ P2 w' B (a.del k) b ∧ Below B w w' := by
  obtain ⟨F, G, h1, h2, h3⟩ := h
  refine (DelH B a.m a.x a.E a.T a.es a.pk F k w h1 hk).mono ?_
  rintro e w' ⟨rfl, ht⟩
  exact ⟨rfl, P2.to h1 h2 h3 ht⟩
theorem Get2 (B : Nat) (a b : Hs) (k : ByteArray) (w : World) (h : P2 w B a b) (hk : k.size ≤ maxLen) :
    Calls Tryz.prog 21 #[ptr a.m, .string k] w fun e w' => e = .returned (.tuple #[.string (getE a.es k), .bool (hasK a.es k)]) ∧ Below w.heap.size w w' := by
  obtain ⟨F, G, h1, h2, h3⟩ := h
  exact GetH B a.m a.x a.E a.T a.es a.pk F k w h1 hk
theorem Len2 (B : Nat) (a b : Hs) (w : World) (h : P2 w B a b) : Calls Tryz.prog 14 #[ptr a.m] w fun e w' => e = .returned (.int .i64 (a.es.length : Nat)) ∧ Below w.heap.size w w' := by
  obtain ⟨F, G, h1, h2, h3⟩ := h
  exact LenH B a.m a.x a.E a.T a.es a.pk F w h1
theorem Packed2 (B : Nat) (a b : Hs) (w : World) (h : P2 w B a b) : Calls Tryz.prog 13 #[ptr a.m] w fun e w' => e = .returned (.bool a.pk) ∧ w' = w := by
  obtain ⟨F, G, h1, h2, h3⟩ := h
  exact PackedH B a.m a.x a.E a.T a.es a.pk F w h1
theorem All2 (B : Nat) (a b : Hs) (w : World) (h : P2 w B a b) : Calls Tryz.prog 19 #[ptr a.m] w fun e w' => Below w.heap.size w w' ∧ ∃ d n c fs, e = .returned (.slice d n c) ∧ OwnQ w' w.heap.size d n c fs ∧ fs.Perm a.es := by
  obtain ⟨F, G, h1, h2, h3⟩ := h
  exact AllH B a.m a.x a.E a.T a.es a.pk F w h1
end Go.Proofs.YtembjlckcgginaaGreat
